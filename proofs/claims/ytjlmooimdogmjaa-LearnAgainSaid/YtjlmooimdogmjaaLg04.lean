/- What a prop is, as plain data: variables, clauses by their ids, the trail with its reasons, where the levels begin; what its calls make of it; what is on the trail follows, and is all that follows where nothing is left to do. No conditions beyond those typed. · Levels of variables: what a decision with all that follows, what going back leaves of them. No conditions beyond those typed. · The trail is short, its literals are small. No conditions beyond those typed. -/
import Derived.Test.YtjlmooimdogmjaaLg03
import Derived.Test.YtjlmooimdogmjaaLg00
set_option linter.unusedVariables false
set_option linter.unusedSimpArgs false
set_option linter.unusedVariables false
set_option linter.unusedSimpArgs false
namespace Go.Proofs.Ytjlmooimdogmjaa
open Go.RowKit

structure Pr where
  n : Nat
  cl : List (Option (List Int))
  tr : List Int
  rs : List Int
  st : List Nat

/-- The clauses that are there. -/
def clsP (p : Pr) : List (List Int) := p.cl.filterMap id
/-- The decisions. -/
def decP (p : Pr) : List Int := p.st.map fun s => p.tr.getD s 0
def valP (p : Pr) (l : Int) : Int := if l ∈ p.tr then 1 else if -l ∈ p.tr then 2 else 0
def posV (tr : List Int) (v : Nat) : Option Nat := tr.findIdx? fun l => decide (plc l = v)
def levP (p : Pr) (v : Int) : Int := match posV p.tr v.toNat with | some i => ((p.st.countP fun s => decide (s ≤ i) : Nat) : Int) | none => -1
def reaP (p : Pr) (v : Int) : Int := match posV p.tr v.toNat with | some i => p.rs.getD i (-1) | none => -1
def cutP (n : Int) : Nat := (min (max n 0) 4000).toNat
def newP (n : Int) : Pr := ⟨cutP n, [], [], [], []⟩
def growP (p : Pr) (n : Int) : Pr := { p with n := max p.n (cutP n) }
def addOk (n : Nat) (xs : List Int) : Bool := decide (∀ x ∈ xs, (1 ≤ plc x ∧ plc x ≤ n) ∧ -x ∉ xs)
def addP (p : Pr) (c : List Int) : Pr := { p with cl := p.cl ++ [some c] }
def dropOk (p : Pr) (i : Int) : Bool := decide (0 ≤ i) && (p.cl.getD i.toNat none).isSome && decide (i ∉ p.rs)
def dropP (p : Pr) (i : Int) : Pr := if dropOk p i then { p with cl := p.cl.set i.toNat none } else p
def decOk (p : Pr) (l : Int) : Bool := decide (1 ≤ plc l ∧ plc l ≤ p.n) && decide (valP p l = 0)
def decdP (p : Pr) (l : Int) : Pr := if decOk p l then { p with tr := p.tr ++ [l], rs := p.rs ++ [-1], st := p.st ++ [p.tr.length] } else p
def backP (p : Pr) (k : Int) : Pr := if k.toNat < p.st.length then { p with tr := p.tr.take (p.st.getD k.toNat 0), rs := p.rs.take (p.st.getD k.toNat 0), st := p.st.take k.toNat } else p
/-- A clause of the literals xs, each once. -/
def NrmP (xs c : List Int) : Prop := c.Nodup ∧ ∀ x, x ∈ c ↔ x ∈ xs

/-- What always holds. -/
structure PrW (p : Pr) : Prop where
  n : p.n ≤ 4000
  len : p.rs.length = p.tr.length
  rgt : ∀ l ∈ p.tr, 1 ≤ plc l ∧ plc l ≤ p.n
  one : p.tr.Pairwise fun x y => plc x ≠ plc y
  sorted : p.st.Pairwise (· < ·)
  lt : ∀ s ∈ p.st, s < p.tr.length
  cls : ∀ c ∈ clsP p, c.Nodup ∧ ∀ l ∈ c, (1 ≤ plc l ∧ plc l ≤ p.n) ∧ -l ∉ c
  dec : ∀ i, i < p.tr.length → (p.rs.getD i (-1) = -1 ↔ i ∈ p.st)
  rsn : ∀ i, i < p.tr.length → i ∉ p.st → ∃ (k : Nat) (c : List Int), p.rs.getD i (-1) = (k : Int) ∧ p.cl.getD k none = some c ∧ p.tr.getD i 0 ∈ c ∧ ∀ l ∈ c, l ≠ p.tr.getD i 0 → -l ∈ p.tr.take i

/-- Nothing is left to do. -/
def CldP (p : Pr) : Prop := ∀ c ∈ clsP p, (∃ l ∈ c, l ∈ p.tr) ∨ ∃ a ∈ c, ∃ b ∈ c, a ≠ b ∧ -a ∉ p.tr ∧ -b ∉ p.tr
/-- What Propagate makes of p, and answers. -/
def PrpR (p : Pr) (r : Int) (p' : Pr) : Prop :=
  p'.n = p.n ∧ p'.cl = p.cl ∧ p'.st = p.st ∧ (∃ m q, p'.tr = p.tr ++ m ∧ p'.rs = p.rs ++ q) ∧ PrW p' ∧ ((r = -1 ∧ CldP p') ∨ ∃ (k : Nat) (c : List Int), r = (k : Int) ∧ p'.cl.getD k none = some c ∧ ∀ l ∈ c, -l ∈ p'.tr)

theorem mem_clsP {p : Pr} {c : List Int} : c ∈ clsP p ↔ ∃ k, p.cl.getD k none = some c := by
  unfold clsP
  rw [List.mem_filterMap]
  constructor
  · rintro ⟨x, hx, e⟩
    obtain ⟨i, hi, rfl⟩ := List.getElem_of_mem hx
    exact ⟨i, by simpa [List.getD, hi] using e⟩
  · rintro ⟨k, h⟩
    by_cases hk : k < p.cl.length
    · exact ⟨p.cl[k], List.getElem_mem hk, by simpa [List.getD, hk] using h⟩
    · simp [List.getD, List.getElem?_eq_none (Nat.le_of_not_lt hk)] at h
theorem mem_decP {p : Pr} {l : Int} : l ∈ decP p ↔ ∃ s ∈ p.st, p.tr.getD s 0 = l := by
  unfold decP; rw [List.mem_map]
theorem getD_mem {l : List Int} {i : Nat} (h : i < l.length) : l.getD i 0 ∈ l := by simp [List.getD, h]
theorem mem_getD {l : List Int} {x : Int} (h : x ∈ l) : ∃ i, i < l.length ∧ l.getD i 0 = x := by
  obtain ⟨i, hi, e⟩ := List.getElem_of_mem h
  exact ⟨i, hi, by simpa [List.getD, hi] using e⟩
section
variable {p : Pr}
theorem PrW.not_both (h : PrW p) {l : Int} (h1 : l ∈ p.tr) (h2 : -l ∈ p.tr) : False := by
  obtain ⟨i, hi, rfl⟩ := List.getElem_of_mem h1
  obtain ⟨j, hj, e⟩ := List.getElem_of_mem h2
  have hp : plc p.tr[j] = plc p.tr[i] := by rw [e, plc_negate]
  have hr := (h.rgt _ h1).1
  have hz := plc_zero' hr
  rcases Nat.lt_trichotomy i j with hl | hl | hl
  · exact List.pairwise_iff_getElem.1 h.one i j hi hj hl hp.symm
  · subst hl; omega
  · exact List.pairwise_iff_getElem.1 h.one j i hj hi hl hp
theorem PrW.fol_at (h : PrW p) : ∀ m i, i < m → i < p.tr.length → Fol (clsP p) (decP p) (p.tr.getD i 0)
  | 0, _, hm, _ => absurd hm (Nat.not_lt_zero _)
  | m + 1, i, hm, hi => by
    by_cases hs : i ∈ p.st
    · exact .dec (mem_decP.2 ⟨i, hs, rfl⟩)
    · obtain ⟨k, c, _, hc, hl, hk⟩ := h.rsn i hi hs
      refine .unit (mem_clsP.2 ⟨k, hc⟩) hl fun x hx hne => ?_
      obtain ⟨j, hj, e⟩ := List.getElem_of_mem (hk x hx hne)
      have hj' : j < i ∧ j < p.tr.length := by simp at hj; omega
      have := h.fol_at m j (by omega) hj'.2
      rw [← e, List.getElem_take]
      simpa [List.getD, hj'.2] using this
/-- What is on the trail follows. -/
theorem PrW.fol (h : PrW p) {l : Int} (hl : l ∈ p.tr) : Fol (clsP p) (decP p) l := by
  obtain ⟨i, hi, rfl⟩ := mem_getD hl
  exact h.fol_at (i + 1) i (Nat.lt_succ_self _) hi
theorem PrW.dec_tr (h : PrW p) {l : Int} (hl : l ∈ decP p) : l ∈ p.tr := by
  obtain ⟨s, hs, rfl⟩ := mem_decP.1 hl
  exact getD_mem (h.lt s hs)
/-- Where nothing is left to do all that follows is on it. -/
theorem PrW.all (h : PrW p) (hc : CldP p) {l : Int} (hf : Fol (clsP p) (decP p) l) : l ∈ p.tr := by
  induction hf with
  | dec hd => exact h.dec_tr hd
  | @unit c l hcm hl hk ih =>
    have hop : ∀ a ∈ c, a ≠ l → -a ∈ p.tr := ih
    rcases hc c hcm with ⟨a, ha, hat⟩ | ⟨a, ha, b, hb, hne, na, nb⟩
    · by_cases e : a = l
      · rw [← e]; exact hat
      · exact (h.not_both hat (hop a ha e)).elim
    · by_cases e : a = l
      · exact absurd (hop b hb (fun e' => hne (by rw [e, e']))) nb
      · exact absurd (hop a ha e) na
theorem PrW.iff (h : PrW p) (hc : CldP p) (l : Int) : Fol (clsP p) (decP p) l ↔ l ∈ p.tr := ⟨h.all hc, h.fol⟩
theorem PrW.right (h : PrW p) (hc : CldP p) : ¬ Wrg (clsP p) (decP p) := by
  rintro (⟨c, hcm, hk⟩ | ⟨l, h1, h2⟩)
  · rcases hc c hcm with ⟨a, ha, hat⟩ | ⟨a, ha, b, hb, hne, na, nb⟩
    · exact h.not_both hat (h.all hc (hk a ha))
    · exact na (h.all hc (hk a ha))
  · exact h.not_both (h.all hc h1) (h.all hc h2)
theorem PrW.wrong (h : PrW p) {k : Nat} {c : List Int} (hc : p.cl.getD k none = some c) (hk : ∀ l ∈ c, -l ∈ p.tr) : Wrg (clsP p) (decP p) :=
  .inl ⟨c, mem_clsP.2 ⟨k, hc⟩, fun l hl => h.fol (hk l hl)⟩

/-! ### Where a variable stands -/
theorem PrW.pos (h : PrW p) {i : Nat} (hi : i < p.tr.length) : posV p.tr (plc (p.tr.getD i 0)) = some i := by
  unfold posV
  rw [List.findIdx?_eq_some_iff_getElem]
  refine ⟨hi, by simp [List.getD, hi], fun j hj => ?_⟩
  have := List.pairwise_iff_getElem.1 h.one j i (by omega) hi hj
  simpa [List.getD, hi] using this
theorem posV_none {tr : List Int} {v : Nat} : posV tr v = none ↔ ∀ l ∈ tr, plc l ≠ v := by
  unfold posV
  rw [List.findIdx?_eq_none_iff]
  simp
theorem posV_app {tr m : List Int} {v i : Nat} (h : posV tr v = some i) : posV (tr ++ m) v = some i := by
  unfold posV at *
  rw [List.findIdx?_append, h]; rfl
theorem posV_lt {tr : List Int} {v i : Nat} (h : posV tr v = some i) : i < tr.length ∧ plc (tr.getD i 0) = v := by
  unfold posV at h
  rw [List.findIdx?_eq_some_iff_getElem] at h
  obtain ⟨h1, h2, _⟩ := h
  exact ⟨h1, by simpa [List.getD, h1] using h2⟩
theorem plc_nat {v : Nat} : plc (v : Int) = v := by
  unfold plc absI; rw [if_neg (by omega)]; simp
theorem valP_pos (v : Nat) (_h : 1 ≤ v) : valP p (v : Int) = 0 ↔ posV p.tr v = none := by
  rw [posV_none]
  unfold valP
  constructor
  · intro hv l hl he
    have : l = (v : Int) ∨ l = -(v : Int) := plc_eq (by rw [he, plc_nat])
    rcases this with e | e
    · rw [if_pos (e ▸ hl)] at hv; cases hv
    · by_cases hm : (v : Int) ∈ p.tr
      · rw [if_pos hm] at hv; cases hv
      · rw [if_neg hm, if_pos (e ▸ hl)] at hv; cases hv
  · intro hv
    rw [if_neg (fun hm => hv _ hm plc_nat), if_neg (fun hm => hv _ hm (by rw [plc_negate, plc_nat]))]
theorem valP_zero {l : Int} : valP p l = 0 ↔ l ∉ p.tr ∧ -l ∉ p.tr := by
  unfold valP
  by_cases h1 : l ∈ p.tr
  · simp [h1]
  · by_cases h2 : -l ∈ p.tr <;> simp [h1, h2]
theorem PrW.val_true (_h : PrW p) {l : Int} : valP p l = 1 ↔ l ∈ p.tr := by
  unfold valP
  by_cases h1 : l ∈ p.tr
  · simp [h1]
  · by_cases h2 : -l ∈ p.tr <;> simp [h1, h2]
theorem PrW.val_false (h : PrW p) {l : Int} : valP p l = 2 ↔ -l ∈ p.tr := by
  unfold valP
  by_cases h1 : l ∈ p.tr
  · rw [if_pos h1]
    exact ⟨fun e => absurd e (by decide), fun h2 => (h.not_both h1 h2).elim⟩
  · by_cases h2 : -l ∈ p.tr <;> simp [h1, h2]
end

/-! ### The clauses by other names -/
theorem Fol.congr {C C' : List (List Int)} {D D' : List Int} (hC : ∀ c ∈ C, ∃ c' ∈ C', ∀ x, x ∈ c' ↔ x ∈ c) (hD : ∀ l ∈ D, l ∈ D') {l : Int} (h : Fol C D l) : Fol C' D' l := by
  induction h with
  | dec h => exact .dec (hD _ h)
  | unit h1 h2 _ ih =>
    obtain ⟨c', hc', hx⟩ := hC _ h1
    exact .unit hc' ((hx _).2 h2) fun k hk hne => ih k ((hx k).1 hk) hne
theorem Wrg.congr {C C' : List (List Int)} {D D' : List Int} (hC : ∀ c ∈ C, ∃ c' ∈ C', ∀ x, x ∈ c' ↔ x ∈ c) (hD : ∀ l ∈ D, l ∈ D') (h : Wrg C D) : Wrg C' D' := by
  rcases h with ⟨c, hc, h⟩ | ⟨l, h1, h2⟩
  · obtain ⟨c', hc', hx⟩ := hC _ hc
    exact .inl ⟨c', hc', fun k hk => (h k ((hx k).1 hk)).congr hC hD⟩
  · exact .inr ⟨l, h1.congr hC hD, h2.congr hC hD⟩
/-- Two lists of clauses with the same members each, in whatever order. -/
def SameC (C C' : List (List Int)) : Prop := (∀ c ∈ C, ∃ c' ∈ C', ∀ x, x ∈ c' ↔ x ∈ c) ∧ ∀ c ∈ C', ∃ c' ∈ C, ∀ x, x ∈ c' ↔ x ∈ c
theorem SameC.fol {C C' : List (List Int)} {D D' : List Int} (hC : SameC C C') (hD : ∀ l, l ∈ D ↔ l ∈ D') (l : Int) : Fol C D l ↔ Fol C' D' l :=
  ⟨fun h => h.congr hC.1 fun l => (hD l).1, fun h => h.congr hC.2 fun l => (hD l).2⟩
theorem SameC.wrg {C C' : List (List Int)} {D D' : List Int} (hC : SameC C C') (hD : ∀ l, l ∈ D ↔ l ∈ D') : Wrg C D ↔ Wrg C' D' :=
  ⟨fun h => h.congr hC.1 fun l => (hD l).1, fun h => h.congr hC.2 fun l => (hD l).2⟩

/-! ### What the calls keep -/
theorem PrW.new (n : Int) : PrW (newP n) where
  n := by unfold newP cutP; simp only; omega
  len := rfl
  rgt := by simp [newP]
  one := by simp [newP]
  sorted := by simp [newP]
  lt := by simp [newP]
  cls := by simp [newP, clsP]
  dec := by simp [newP]
  rsn := by simp [newP]
theorem PrpR.dec {p p' : Pr} {r : Int} (h : PrpR p r p') (hw : PrW p) : decP p' = decP p := by
  obtain ⟨_, _, h3, ⟨m, q, h4, _⟩, _⟩ := h
  unfold decP
  rw [h3, h4]
  refine List.map_congr_left fun s hs => ?_
  have := hw.lt s hs
  simp [List.getD, List.getElem?_append_left this]
theorem decdP_dec {p : Pr} {l : Int} (hw : PrW p) (h : decOk p l = true) : decP (decdP p l) = decP p ++ [l] := by
  unfold decdP
  rw [if_pos h]
  unfold decP
  rw [List.map_append]
  congr 1
  · refine List.map_congr_left fun s hs => ?_
    have := hw.lt s hs
    simp [List.getD, List.getElem?_append_left this]
  · simp [List.getD]
theorem backP_dec {p : Pr} (hw : PrW p) (k : Int) : decP (backP p k) = (decP p).take k.toNat := by
  unfold backP
  by_cases h : k.toNat < p.st.length
  · rw [if_pos h]
    unfold decP
    rw [← List.map_take]
    refine List.map_congr_left fun s hs => ?_
    obtain ⟨i, hi, rfl⟩ := List.getElem_of_mem hs
    have hi' : i < k.toNat ∧ i < p.st.length := by simp at hi; omega
    rw [List.getElem_take]
    have := List.pairwise_iff_getElem.1 hw.sorted i k.toNat hi'.2 h hi'.1
    have e : p.st.getD k.toNat 0 = p.st[k.toNat] := by simp [List.getD, h]
    rw [e]
    simp [List.getD, List.getElem?_take, this]
  · rw [if_neg h, List.take_of_length_le]
    unfold decP; simp; omega
end Go.Proofs.Ytjlmooimdogmjaa

set_option linter.unusedVariables false
set_option linter.unusedSimpArgs false
namespace Go.Proofs.Ytjlmooimdogmjaa
open Go.RowKit

section
variable {p : Pr}
theorem levP_none {v : Nat} : levP p (v : Int) = -1 ↔ posV p.tr v = none := by
  unfold levP
  rw [Int.toNat_natCast]
  cases posV p.tr v with
  | none => simp
  | some i => simp
theorem levP_some {v i : Nat} (h : posV p.tr v = some i) : levP p (v : Int) = ((p.st.countP fun s => decide (s ≤ i) : Nat) : Int) := by
  unfold levP
  rw [Int.toNat_natCast, h]
theorem levP_ge (v : Nat) : -1 ≤ levP p (v : Int) := by
  unfold levP
  split <;> omega
theorem levP_le (v : Nat) : levP p (v : Int) ≤ (p.st.length : Int) := by
  unfold levP
  split
  · exact Int.ofNat_le.2 (List.countP_le_length)
  · omega
theorem val_lev {v : Nat} (h : 1 ≤ v) : valP p (v : Int) = 0 ↔ levP p (v : Int) = -1 := (valP_pos v h).trans levP_none.symm
theorem levP_base {v : Nat} (hs : p.st = []) : levP p (v : Int) = -1 ∨ levP p (v : Int) = 0 := by
  have h1 := levP_ge (p := p) v
  have h2 := levP_le (p := p) v
  rw [hs] at h2
  simp at h2
  omega
theorem levP_same {q : Pr} (h1 : q.tr = p.tr) (h2 : q.st = p.st) (v : Int) : levP q v = levP p v := by unfold levP; rw [h1, h2]

/-- A decision, and what followed of it. -/
structure NextP (p q : Pr) : Prop where
  tr : ∃ m, q.tr = p.tr ++ m
  st : q.st = p.st ++ [p.tr.length]
theorem next_of {l x : Int} {q : Pr} (h : decOk p l = true) (k : PrpR (decdP p l) x q) : NextP p q := by
  obtain ⟨_, _, h3, ⟨m, r, h4, _⟩, _⟩ := k
  unfold decdP at h3 h4
  rw [if_pos h] at h3 h4
  exact ⟨⟨[l] ++ m, by rw [h4, List.append_assoc]⟩, h3⟩
theorem NextP.old {q : Pr} (h : NextP p q) (_hw : PrW p) {v : Nat} (hv : levP p (v : Int) ≠ -1) : levP q (v : Int) = levP p (v : Int) := by
  obtain ⟨m, hm⟩ := h.tr
  cases hp : posV p.tr v with
  | none => exact absurd (levP_none.2 hp) hv
  | some i =>
    have hq : posV q.tr v = some i := by rw [hm]; exact posV_app hp
    rw [levP_some hp, levP_some hq, h.st, List.countP_append]
    have := (posV_lt hp).1
    simp [show ¬ p.tr.length ≤ i by omega]
theorem NextP.new {q : Pr} (h : NextP p q) (hw : PrW p) {v : Nat} (hv : levP p (v : Int) = -1) : levP q (v : Int) = -1 ∨ levP q (v : Int) = (q.st.length : Int) := by
  obtain ⟨m, hm⟩ := h.tr
  have hp := levP_none.1 hv
  cases hq : posV q.tr v with
  | none => exact .inl (levP_none.2 hq)
  | some j =>
    right
    have hj : p.tr.length ≤ j := by
      rcases Nat.lt_or_ge j p.tr.length with hlt | hge
      · exfalso
        have h1 := (posV_lt hq).2
        rw [hm] at h1
        have e : (p.tr ++ m).getD j 0 = p.tr.getD j 0 := by simp [List.getD, List.getElem?_append_left hlt]
        rw [e] at h1
        exact posV_none.1 hp _ (getD_mem hlt) h1
      · exact hge
    rw [levP_some hq]
    have : q.st.countP (fun s => decide (s ≤ j)) = q.st.length := List.countP_eq_length.2 fun s hs => by
      rw [h.st] at hs
      rcases List.mem_append.1 hs with hs | hs
      · have := hw.lt s hs; exact decide_eq_true (by omega)
      · simp at hs; exact decide_eq_true (by omega)
    rw [this]
theorem NextP.len {q : Pr} (h : NextP p q) : q.st.length = p.st.length + 1 := by rw [h.st]; simp
/-- The last level gone back on. -/
theorem NextP.back {q : Pr} (h : NextP p q) : (backP q ((q.st.length : Int) - 1)).tr = p.tr ∧ (backP q ((q.st.length : Int) - 1)).st = p.st := by
  obtain ⟨m, hm⟩ := h.tr
  have hl := h.len
  have hk : ((q.st.length : Int) - 1).toNat = p.st.length := by omega
  unfold backP
  rw [hk, if_pos (by omega)]
  have e : q.st.getD p.st.length 0 = p.tr.length := by rw [h.st]; simp [List.getD]
  rw [e]
  constructor
  · show q.tr.take p.tr.length = p.tr
    rw [hm, List.take_left']
    rfl
  · show q.st.take p.st.length = p.st
    rw [h.st, List.take_left']
    rfl
/-- Gone back: the higher levels are unknown, the others as they were. -/
theorem lev_back (hw : PrW p) {k : Nat} (v : Nat) : levP (backP p (k : Int)) (v : Int) = if 0 ≤ levP p (v : Int) ∧ levP p (v : Int) ≤ (k : Int) then levP p (v : Int) else -1 := by
  have hge := levP_ge (p := p) v
  by_cases hk : k < p.st.length
  · have e : backP p (k : Int) = { p with tr := p.tr.take (p.st.getD k 0), rs := p.rs.take (p.st.getD k 0), st := p.st.take k } := by unfold backP; rw [Int.toNat_natCast, if_pos hk]
    have es : p.st.getD k 0 = p.st[k] := by simp [List.getD, hk]
    rw [es] at e
    cases hp : posV p.tr v with
    | none =>
      have h1 := levP_none.2 hp
      rw [if_neg (by omega), levP_none, e]
      rw [posV_none] at hp ⊢
      exact fun l hl => hp l (List.mem_of_mem_take hl)
    | some i =>
      have hi := posV_lt hp
      by_cases hlt : i < p.st[k]
      · have hq : posV (p.tr.take p.st[k]) v = some i := by
          cases hq : posV (p.tr.take p.st[k]) v with
          | none =>
            exfalso
            have := posV_none.1 hq (p.tr.getD i 0) (by
              have : (p.tr.take p.st[k])[i]'(by simp; omega) ∈ p.tr.take p.st[k] := List.getElem_mem _
              rw [List.getElem_take] at this
              simpa [List.getD, hi.1] using this)
            exact this hi.2
          | some j =>
            have := posV_app (m := p.tr.drop p.st[k]) hq
            rw [List.take_append_drop, hp] at this
            rw [Option.some.inj this]
        have hc : (p.st.take k).countP (fun s => decide (s ≤ i)) = p.st.countP (fun s => decide (s ≤ i)) := by
          conv => rhs; rw [← List.take_append_drop k p.st]
          rw [List.countP_append]
          have : (p.st.drop k).countP (fun s => decide (s ≤ i)) = 0 := List.countP_eq_zero.2 fun s hs => by
            obtain ⟨j, hj, rfl⟩ := List.getElem_of_mem hs
            rw [List.getElem_drop]
            have hj' : k + j < p.st.length := by simp at hj; omega
            have : p.st[k] ≤ p.st[k + j] := by
              rcases Nat.eq_zero_or_pos j with e | e
              · subst e; exact Nat.le_refl _
              · exact Nat.le_of_lt (List.pairwise_iff_getElem.1 hw.sorted k (k + j) hk hj' (by omega))
            simp; omega
          omega
        have hle : (p.st.take k).countP (fun s => decide (s ≤ i)) ≤ k := Nat.le_trans List.countP_le_length (by simp; omega)
        have h1 := levP_some hp
        rw [levP_some (p := backP p (k : Int)) (i := i) (by rw [e]; exact hq), if_pos ⟨by omega, by rw [h1, ← hc]; omega⟩, h1, ← hc, e]
      · have hq : posV (p.tr.take p.st[k]) v = none := by
          cases hq : posV (p.tr.take p.st[k]) v with
          | none => rfl
          | some j =>
            exfalso
            have h2 := (posV_lt hq).1
            have := posV_app (m := p.tr.drop p.st[k]) hq
            rw [List.take_append_drop, hp] at this
            have := Option.some.inj this
            simp at h2
            omega
        have hc : k + 1 ≤ p.st.countP (fun s => decide (s ≤ i)) := by
          conv => rhs; rw [← List.take_append_drop (k + 1) p.st]
          rw [List.countP_append]
          have : (p.st.take (k + 1)).countP (fun s => decide (s ≤ i)) = (p.st.take (k + 1)).length := List.countP_eq_length.2 fun s hs => by
            obtain ⟨j, hj, rfl⟩ := List.getElem_of_mem hs
            rw [List.getElem_take]
            have hj' : j ≤ k := by simp at hj; omega
            have : p.st[j] ≤ p.st[k] := by
              rcases Nat.lt_or_ge j k with e | e
              · exact Nat.le_of_lt (List.pairwise_iff_getElem.1 hw.sorted j k (by omega) hk e)
              · have : j = k := by omega
                subst this; exact Nat.le_refl _
            exact decide_eq_true (by omega)
          have h3 : (p.st.take (k + 1)).length = k + 1 := by simp; omega
          omega
        have h1 := levP_some hp
        rw [if_neg (by omega), levP_none, e]
        exact hq
  · have e : backP p (k : Int) = p := by unfold backP; rw [Int.toNat_natCast, if_neg hk]
    have := levP_le (p := p) v
    rw [e]
    split
    · rfl
    · omega
theorem back_len {k : Nat} (hk : k ≤ p.st.length) : (backP p (k : Int)).st.length = k := by
  unfold backP
  rw [Int.toNat_natCast]
  split
  · simp; omega
  · omega
theorem backP_n (k : Int) : (backP p k).n = p.n := by unfold backP; split <;> rfl
theorem backP_cl (k : Int) : (backP p k).cl = p.cl := by unfold backP; split <;> rfl
theorem decdP_n (l : Int) : (decdP p l).n = p.n := by unfold decdP; split <;> rfl
theorem decdP_cl (l : Int) : (decdP p l).cl = p.cl := by unfold decdP; split <;> rfl
end
end Go.Proofs.Ytjlmooimdogmjaa

set_option linter.unusedVariables false
set_option linter.unusedSimpArgs false
namespace Go.Proofs.Ytjlmooimdogmjaa
open Go.RowKit

theorem PrW.tr_len {p : Pr} (h : PrW p) : p.tr.length ≤ p.n + 1 := by
  have h1 : (p.tr.map plc).Nodup := List.pairwise_map.2 h.one
  have h2 : p.tr.map plc ⊆ List.range (p.n + 1) := fun x hx => by
    obtain ⟨l, hl, rfl⟩ := List.mem_map.1 hx
    have := h.rgt l hl
    exact List.mem_range.2 (by omega)
  have := h1.length_le_of_subset h2
  simpa using this
theorem PrW.tr_in {p : Pr} (h : PrW p) : InW p.tr := fun l hl => by
  have h1 := h.rgt l hl
  have h2 := plc_absI l
  have h3 := h.n
  unfold absI at h2
  split at h2 <;> omega
end Go.Proofs.Ytjlmooimdogmjaa
