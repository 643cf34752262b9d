/- What the law PropIds needs of plain data: clauses of two literals, no decisions: nothing follows; a dropped clause is there no more. No conditions beyond those typed. -/
import Derived.Test.YtkjaepcdhclmfaaDoorPrF
import Derived.Deep.LoopGhost
import Derived.Deep.CutBlock
import Derived.Deep.DeepCutAuto
set_option linter.unusedVariables false
set_option linter.unusedSimpArgs false
namespace Go.Proofs.YtkjaepcdhclmfaaDoor
open Go.RowKit

/-- So many clauses of two literals each, and nothing is known. -/
structure IdI (p : Pr) (i : Nat) : Prop where
  n : p.n = 9
  tr : p.tr = []
  rs : p.rs = []
  st : p.st = []
  len : p.cl.length = i
  two : ∀ k, k < i → ∃ c, p.cl.getD k none = some c ∧ c.Nodup ∧ c.length = 2
theorem IdI.start : IdI (newP 9) 0 := ⟨rfl, rfl, rfl, rfl, rfl, nofun⟩
theorem nrm_two {a b : Int} {c : List Int} (hab : a ≠ b) (h : NrmP [a, b] c) : c.Nodup ∧ c.length = 2 := by
  refine ⟨h.1, ?_⟩
  have : c.Perm [a, b] := (List.perm_ext_iff_of_nodup h.1 (by simp [hab])).2 h.2
  simpa using this.length_eq
theorem IdI.add {p : Pr} {i : Nat} (h : IdI p i) {c : List Int} (hc : c.Nodup ∧ c.length = 2) : IdI (addP p c) (i + 1) where
  n := h.n
  tr := h.tr
  rs := h.rs
  st := h.st
  len := by show (p.cl ++ [some c]).length = _; rw [List.length_append, h.len]; rfl
  two := fun k hk => by
    show ∃ d, (p.cl ++ [some c]).getD k none = some d ∧ _
    rcases Nat.lt_or_ge k i with hl | hl
    · obtain ⟨d, h1, h2⟩ := h.two k hl
      refine ⟨d, ?_, h2⟩
      rw [← h1]
      simp [List.getD, List.getElem?_append_left (show k < p.cl.length by rw [h.len]; exact hl)]
    · have : k = p.cl.length := by rw [h.len]; omega
      subst this
      exact ⟨c, by simp [List.getD], hc⟩
theorem IdI.prop {p p' : Pr} {i : Nat} {x : Int} (h : IdI p i) (hR : PrpR p x p') : x = -1 ∧ IdI p' i := by
  obtain ⟨h1, h2, h3, _, hw, hr⟩ := hR
  have hD : decP p' = [] := by unfold decP; rw [h3, h.st]; rfl
  have hC : ∀ c ∈ clsP p', c.Nodup ∧ c.length = 2 := fun c hc => by
    obtain ⟨k, hk⟩ := mem_clsP.1 hc
    rw [h2] at hk
    have hkl : k < i := by
      rcases Nat.lt_or_ge k i with hl | hl
      · exact hl
      · simp [List.getD, List.getElem?_eq_none (show p.cl.length ≤ k by rw [h.len]; exact hl)] at hk
    obtain ⟨d, h4, h5⟩ := h.two k hkl
    rw [hk] at h4
    injection h4 with h4
    subst h4
    exact h5
  have hno : ∀ l, ¬ Fol (clsP p') (decP p') l := fun l hl => by
    induction hl with
    | dec hd => rw [hD] at hd; cases hd
    | @unit c l hc hl _ ih =>
      obtain ⟨k1, k2⟩ := hC c hc
      match c, k1, k2, hl, ih with
      | [a, b], k1, _, hl, ih =>
        have hab : a ≠ b := by simp at k1; exact k1
        by_cases e : a = l
        · exact ih b (by simp) (fun e' => hab (by rw [e, e']))
        · exact ih a (by simp) e
  have ht : p'.tr = [] := by
    cases e : p'.tr with
    | nil => rfl
    | cons a r => exact (hno a (hw.fol (by rw [e]; simp))).elim
  have hrs : p'.rs = [] := List.eq_nil_of_length_eq_zero (by rw [hw.len, ht]; rfl)
  refine ⟨?_, by rw [h1]; exact h.n, ht, hrs, by rw [h3]; exact h.st, by rw [h2]; exact h.len, by rw [h2]; exact h.two⟩
  rcases hr with ⟨e, _⟩ | ⟨k, c, _, hk, hf⟩
  · exact e
  · obtain ⟨_, k2⟩ := hC c (mem_clsP.2 ⟨k, hk⟩)
    match c, k2 with
    | [a, b], _ => have := hf a (by simp); rw [ht] at this; cases this
theorem IdI.drop {p : Pr} {i k : Nat} (h : IdI p i) (hk : k < i) : dropOk p (k : Int) = true ∧ dropP p (k : Int) = { p with cl := p.cl.set k none } ∧ dropOk { p with cl := p.cl.set k none } (k : Int) = false ∧ dropP { p with cl := p.cl.set k none } (k : Int) = { p with cl := p.cl.set k none } := by
  obtain ⟨c, hc, _⟩ := h.two k hk
  have e1 : dropOk p (k : Int) = true := by
    unfold dropOk
    rw [Int.toNat_natCast, hc, h.rs]
    simp
  have e2 : dropOk { p with cl := p.cl.set k none } (k : Int) = false := by
    unfold dropOk
    rw [Int.toNat_natCast]
    have : (p.cl.set k none).getD k none = none := by simp [List.getD, show k < p.cl.length by rw [h.len]; exact hk]
    show (_ && ((p.cl.set k none).getD k none).isSome && _) = false
    rw [this]; simp
  exact ⟨e1, by unfold dropP; rw [e1]; rfl, e2, by unfold dropP; rw [e2]; rfl⟩
theorem gone_get {p : Pr} {k : Nat} {c : List Int} (hk : k < p.cl.length) : ((addP { p with cl := p.cl.set k none } c).cl.getD k none).getD [] = [] := by
  show ((p.cl.set k none ++ [some c]).getD k none).getD [] = []
  simp [List.getD, List.getElem?_append_left (show k < (p.cl.set k none).length by simpa using hk), hk]
theorem rea_drop {p : Pr} {v : Int} (h : 0 ≤ reaP p v) : dropOk p (reaP p v) = false ∧ dropP p (reaP p v) = p := by
  have hm : reaP p v ∈ p.rs := by
    unfold reaP at h ⊢
    cases e : posV p.tr v.toNat with
    | none => rw [e] at h; exact absurd (show (0 : Int) ≤ -1 from h) (by decide)
    | some i =>
      rw [e] at h
      have h' : 0 ≤ p.rs.getD i (-1) := h
      show p.rs.getD i (-1) ∈ p.rs
      by_cases hi : i < p.rs.length
      · rw [show p.rs.getD i (-1) = p.rs[i] by simp [List.getD, hi]]; exact List.getElem_mem hi
      · rw [show p.rs.getD i (-1) = -1 by simp [List.getD, List.getElem?_eq_none (Nat.le_of_not_lt hi)]] at h'; omega
  have e : dropOk p (reaP p v) = false := by unfold dropOk; simp [hm]
  exact ⟨e, by unfold dropP; rw [e]; rfl⟩
theorem rea_bd {p : Pr} (h : PrW p) (v : Int) : -1 ≤ reaP p v ∧ reaP p v ≤ (p.cl.length : Int) := by
  unfold reaP
  cases e : posV p.tr v.toNat with
  | none => exact ⟨Int.le_refl (-1), by show (-1 : Int) ≤ _; omega⟩
  | some i =>
    show -1 ≤ p.rs.getD i (-1) ∧ p.rs.getD i (-1) ≤ _
    have hi := (posV_lt e).1
    by_cases hs : i ∈ p.st
    · rw [(h.dec i hi).2 hs]; omega
    · obtain ⟨k, c, h1, h2, _⟩ := h.rsn i hi hs
      rw [h1]
      have hk : k < p.cl.length := by
        rcases Nat.lt_or_ge k p.cl.length with hl | hl
        · exact hl
        · simp [List.getD, List.getElem?_eq_none hl] at h2
      omega

theorem eqN_8 (a : Option Addr) (l c : Nat) (w : World) : (binOp .eql 33 (.slice a l c) (.slice none 0 0)).run Tryd.prog w = .ok (.bool a.isNone) w := by
  have h := run_equal_slice_nil (P := Tryd.prog) (w := w) 33 5 a l c Tryd.underlying33
  simp [binOp, h, Result.andThen]

set_option maxRecDepth 8000 in
theorem bytes_nil (w : World) : Calls Tryd.prog 13 #[.slice none 0 0] w fun e w' => e = .returned (.slice none 0 0) ∧ w = w' := by
  go_enter Tryd.func13, Tryd.ntmps13
  go_wp2_with fail
  go_loopw [3, 4] (fun u3 u4 W => u3 = .slice none 0 0 ∧ u4 = .int .i64 0 ∧ W = w) (fun _ _ _ => 0)
  case atStart => exact ⟨rfl, rfl, rfl⟩
  case round =>
    obtain ⟨rfl, rfl, rfl⟩ := hrel
    go_wp2_with fail
    go_ret
    exact ⟨rfl, rfl⟩

end Go.Proofs.YtkjaepcdhclmfaaDoor
