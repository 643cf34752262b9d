/- Two props of the call's own side by side ('P2'); the clauses told to one ('Told'); skolemlaw15.sorted. No conditions beyond those typed. · Contracts of skolemref1.Assign's Clause, All, Known and of skolemref1.Of. Conditions: the literals lie strictly inside the 64 bits and are not 0. -/
import Derived.Test.YtjlmooimdogmjaaLg31
import Derived.Test.YtjlmooimdogmjaaLg03
import Derived.Test.YtjlmooimdogmjaaLg23
import Derived.Deep.DeepCutAuto
import Derived.Deep.LoopGhost
set_option linter.unusedVariables false
set_option linter.unusedSimpArgs false
set_option linter.unusedVariables false
set_option linter.unusedSimpArgs false
namespace Go.Proofs.Ytjlmooimdogmjaa
open Go.RowKit

def P2 (w0 : World) (T : Nat → Prop) (v x : Value) (p q : Pr) (W : World) : Prop :=
  ∃ S R, PrS W v S p ∧ PrS W x R q ∧ Below w0.heap.size w0 W ∧ (∀ i ∈ S, w0.heap.size ≤ i ∧ ¬ T i) ∧ (∀ i ∈ R, w0.heap.size ≤ i ∧ ¬ T i) ∧ (∀ i ∈ S, i ∉ R) ∧ ∀ i, T i → i < W.heap.size
section
variable {w0 W : World} {T : Nat → Prop} {v x : Value} {p q : Pr}
theorem P2.swap (h : P2 w0 T v x p q W) : P2 w0 T x v q p W := by
  obtain ⟨S, R, h1, h2, h3, h4, h5, h6, h7⟩ := h
  exact ⟨R, S, h2, h1, h3, h5, h4, fun i hi hs => h6 i hs hi, h7⟩
theorem P2.left (h : P2 w0 T v x p q W) : PT w0 T v p W := by
  obtain ⟨S, R, h1, h2, h3, h4, h5, h6, h7⟩ := h
  exact ⟨S, h1, h3, h4, h7⟩
theorem P2.right (h : P2 w0 T v x p q W) : PT w0 T x q W := h.swap.left
theorem P2.bel (h : P2 w0 T v x p q W) : Below w0.heap.size w0 W := h.left.bel
theorem P2.keep {W' : World} (h : P2 w0 T v x p q W) (hb : Below W.heap.size W W') : P2 w0 T v x p q W' := by
  obtain ⟨S, R, h1, h2, h3, h4, h5, h6, h7⟩ := h
  exact ⟨S, R, h1.below hb, h2.below hb, h3.trans (hb.mono h3.size), h4, h5, h6, fun i hi => Nat.lt_of_lt_of_le (h7 i hi) hb.size⟩
theorem P2.more {W' : World} {U : Nat → Prop} (h : P2 w0 T v x p q W) (hb : Below W.heap.size W W') (hU : ∀ i, U i → T i ∨ (W.heap.size ≤ i ∧ i < W'.heap.size)) : P2 w0 U v x p q W' := by
  obtain ⟨S, R, h1, h2, h3, h4, h5, h6, h7⟩ := h
  refine ⟨S, R, h1.below hb, h2.below hb, h3.trans (hb.mono h3.size), fun i hi => ⟨(h4 i hi).1, fun hu => ?_⟩, fun i hi => ⟨(h5 i hi).1, fun hu => ?_⟩, h6, fun i hi => ?_⟩
  · exact (hU i hu).elim (h4 i hi).2 (fun h => absurd (h1.lt i hi) (Nat.not_lt.2 h.1))
  · exact (hU i hu).elim (h5 i hi).2 (fun h => absurd (h2.lt i hi) (Nat.not_lt.2 h.1))
  · exact (hU i hi).elim (fun h => Nat.lt_of_lt_of_le (h7 i h) hb.size) (fun h => h.2)
theorem P2.start {W' : World} {R : List Nat} (h : PSt w0 v p W) (hb : Below W.heap.size W W') (hr : PrS W' x R q) (hR : ∀ i ∈ R, W.heap.size ≤ i) : P2 w0 (fun _ => False) v x p q W' := by
  obtain ⟨S, h1, h2, h3⟩ := h
  exact ⟨S, R, h1.below hb, hr, h2.trans (hb.mono h2.size), fun i hi => ⟨h3 i hi, fun h => h⟩, fun i hi => ⟨Nat.le_trans h2.size (hR i hi), fun h => h⟩, fun i hi hm => by have := h1.lt i hi; have := hR i hm; omega, fun i hi => hi.elim⟩
theorem p2 {R : Value → Pr → Prop} {f : Nat} {args : Array Value} (h : P2 w0 T v x p q W) (hc : ∀ S, PrS W v S p → Calls Try.prog f args W (PPost W v S R)) : Calls Try.prog f args W fun e w' => ∃ r p', R r p' ∧ e = .returned r ∧ P2 w0 T v x p' q w' ∧ Kp T W w' := by
  obtain ⟨S, Q, h1, h2, h3, h4, h5, h6, h7⟩ := h
  refine (hc S h1).mono fun e w' hp => ?_
  obtain ⟨r, p', hR, he, ⟨S', hG, hF⟩, hC⟩ := hp
  refine ⟨r, p', hR, he, ⟨S', Q, hG, h2.keep hC (fun i hi hs => h6 i hs hi), hC.below h3 h3.size (fun i hi => (h4 i hi).1), fun i hi => ?_, h5, fun i hi hm => ?_, fun i hi => Nat.lt_of_lt_of_le (h7 i hi) hC.size⟩, hC.size, fun i hi => hC.block i (h7 i hi) (fun hm => (h4 i hm).2 hi)⟩
  · rcases hF i hi with h | h
    · exact h4 i h
    · exact ⟨Nat.le_trans h3.size h, fun ht => absurd (h7 i ht) (Nat.not_lt.2 h)⟩
  · rcases hF i hi with h | h
    · exact h6 i h hm
    · exact absurd (h2.lt i hm) (Nat.not_lt.2 h)

theorem p2_dec (h : P2 w0 T v x p q W) (l : Int) (h1 : -9223372036854775807 ≤ l) (h2 : l ≤ 9223372036854775807) : Calls Try.prog 28 #[v, .int .i64 l] W fun e w' => e = .returned (.bool (decOk p l)) ∧ P2 w0 T v x (decdP p l) q w' ∧ Kp T W w' :=
  (p2 h fun S hS => pdec_any W hS l h1 h2).mono fun e w' ⟨r, p', ⟨e1, e2⟩, he, hp⟩ => ⟨by rw [he, e1], by rw [← e2]; exact hp⟩

theorem p2_prop (h : P2 w0 T v x p q W) (hc : p.cl.length ≤ 1000) : Calls Try.prog 19 #[v] W fun e w' => ∃ y p', PrpR p y p' ∧ e = .returned (.int .i64 y) ∧ P2 w0 T v x p' q w' ∧ Kp T W w' :=
  (p2 h fun S hS => pprop_any W hS hc).mono fun e w' ⟨r, p', ⟨y, e1, e2⟩, he, hp⟩ => ⟨y, p', e2, by rw [he, e1], hp⟩

theorem p2_add (h : P2 w0 T v x p q W) (u : Value) (xs : List Int) (hu : Row W u xs) (hx : InW xs) (hn : xs.length ≤ 1000) (hc : p.cl.length ≤ 1000) : Calls Try.prog 18 #[v, u] W fun e w' => ∃ (y : Int) (b : Bool) (p' : Pr), AddR p xs b p' ∧ e = .returned (.tuple #[.int .i64 y, .bool b]) ∧ P2 w0 T v x p' q w' ∧ Kp T W w' :=
  (p2 h fun S hS => padd_any W hS u xs hu hx hn hc).mono fun e w' ⟨r, p', hR, he, hp⟩ => by
    rcases hR with ⟨h0, c, h1, h2, h3⟩ | ⟨h0, h1, y, h2⟩
    · exact ⟨_, true, p', .inl ⟨rfl, h0, c, h1, h3⟩, by rw [he, h2], hp⟩
    · exact ⟨y, false, p', .inr ⟨rfl, h0, h1⟩, by rw [he, h2], hp⟩

end

/-! ### The clauses told -/
/-- C: the clauses that are there when these were told to a prop of n variables. -/
def Told (n : Nat) (L C : List (List Int)) : Prop := (∀ c ∈ C, ∃ x ∈ L, addOk n x = true ∧ NrmP x c) ∧ ∀ x ∈ L, addOk n x = true → ∃ c ∈ C, NrmP x c
theorem Told.nil (n : Nat) : Told n [] [] := ⟨by simp, by simp⟩
theorem clsP_add (p : Pr) (c : List Int) : clsP (addP p c) = clsP p ++ [c] := by
  unfold clsP addP
  simp
theorem Told.add {n : Nat} {L : List (List Int)} {p p' : Pr} {xs : List Int} {b : Bool} (h : Told n L (clsP p)) (hn : p.n = n) (ha : AddR p xs b p') : Told n (L ++ [xs]) (clsP p') := by
  rcases ha with ⟨_, h1, c, h2, rfl⟩ | ⟨_, h1, rfl⟩
  · rw [clsP_add]
    refine ⟨fun d hd => ?_, fun x hx hok => ?_⟩
    · rcases List.mem_append.1 hd with hd | hd
      · obtain ⟨x, hx, r⟩ := h.1 d hd
        exact ⟨x, List.mem_append_left _ hx, r⟩
      · simp at hd
        subst hd
        exact ⟨xs, by simp, by rw [← hn]; exact h1, h2⟩
    · rcases List.mem_append.1 hx with hx | hx
      · obtain ⟨d, hd, r⟩ := h.2 x hx hok
        exact ⟨d, List.mem_append_left _ hd, r⟩
      · simp at hx
        subst hx
        exact ⟨c, by simp, h2⟩
  · refine ⟨fun d hd => ?_, fun x hx hok => ?_⟩
    · obtain ⟨x, hx, r⟩ := h.1 d hd
      exact ⟨x, List.mem_append_left _ hx, r⟩
    · rcases List.mem_append.1 hx with hx | hx
      · exact h.2 x hx hok
      · simp at hx
        subst hx
        rw [hn, hok] at h1
        cases h1
theorem Told.same {n : Nat} {L L' C C' : List (List Int)} (h : Told n L C) (h' : Told n L' C') (hL : ∀ x, x ∈ L ↔ x ∈ L') : SameC C C' := by
  refine ⟨fun c hc => ?_, fun c hc => ?_⟩
  · obtain ⟨x, hx, hok, hn⟩ := h.1 c hc
    obtain ⟨d, hd, hn'⟩ := h'.2 x ((hL x).1 hx) hok
    exact ⟨d, hd, fun y => (hn'.2 y).trans (hn.2 y).symm⟩
  · obtain ⟨x, hx, hok, hn⟩ := h'.1 c hc
    obtain ⟨d, hd, hn'⟩ := h.2 x ((hL x).2 hx) hok
    exact ⟨d, hd, fun y => (hn'.2 y).trans (hn.2 y).symm⟩

/-- What Propagate said, as to what follows. -/
structure SaidP (p : Pr) (x : Int) : Prop where
  wf : PrW p
  yes : x < 0 → CldP p
  no : 0 ≤ x → Wrg (clsP p) (decP p)
theorem SaidP.of {p p' : Pr} {x : Int} (h : PrpR p x p') : SaidP p' x := by
  obtain ⟨_, _, _, _, hw, hr⟩ := h
  refine ⟨hw, fun hx => ?_, fun hx => ?_⟩
  · rcases hr with ⟨_, h⟩ | ⟨k, _, e, _⟩
    · exact h
    · omega
  · rcases hr with ⟨e, _⟩ | ⟨k, c, _, hc, hk⟩
    · omega
    · exact hw.wrong hc hk
theorem SaidP.same {p q : Pr} {x y : Int} (h : SaidP p x) (k : SaidP q y) (hC : SameC (clsP p) (clsP q)) (hD : decP p = decP q) : (0 ≤ x ↔ 0 ≤ y) ∧ (x < 0 → ∀ l, l ∈ p.tr ↔ l ∈ q.tr) := by
  have hw := hC.wrg (D := decP p) (D' := decP q) (fun l => by rw [hD])
  have hf := hC.fol (D := decP p) (D' := decP q) (fun l => by rw [hD])
  have h1 : 0 ≤ x → 0 ≤ y := fun hx => by
    rcases (show y < 0 ∨ 0 ≤ y by omega) with hy | hy
    · exact (k.wf.right (k.yes hy) (hw.1 (h.no hx))).elim
    · exact hy
  have h2 : 0 ≤ y → 0 ≤ x := fun hy => by
    rcases (show x < 0 ∨ 0 ≤ x by omega) with hx | hx
    · exact (h.wf.right (h.yes hx) (hw.2 (k.no hy))).elim
    · exact hx
  refine ⟨⟨h1, h2⟩, fun hx l => ?_⟩
  have hy : y < 0 := by
    rcases (show y < 0 ∨ 0 ≤ y by omega) with hy | hy
    · exact hy
    · have := h2 hy; omega
  rw [← h.wf.iff (h.yes hx), ← k.wf.iff (k.yes hy), hf]
theorem decOk_same {p q : Pr} (hn : p.n = q.n) (hm : ∀ l, l ∈ p.tr ↔ l ∈ q.tr) (l : Int) : decOk p l = decOk q l := by
  have : valP p l = valP q l := by unfold valP; simp only [hm]
  unfold decOk
  rw [hn, this]

end Go.Proofs.Ytjlmooimdogmjaa

namespace Go.Proofs.Ytjlmooimdogmjaa
open Go.RowKit

/-- The count of changes beside the fold. -/
def CRel (s : Int × Int × Bool) (o : Int) (m : Nat) : Prop := s.2.1 = o ∧ s.1 = (if m = 0 then 2 else 0) ∧ s.2.2 = decide (1 < m) ∧ (m = 0 → o = 0)
theorem cRel_step {V : List Int} {s : Int × Int × Bool} {o : Int} {m : Nat} (h : CRel s o m) (l : Int) (hl : l ≠ 0) (hv : valL V l = 0) : CRel (cstep V s l) l (if l = o then m else m + 1) := by
  obtain ⟨h1, h2, h3, h4⟩ := h
  unfold cstep
  rw [if_pos hv]
  refine ⟨rfl, ?_, ?_, ?_⟩
  · by_cases e : l = o
    · rw [if_pos e]
      have : m ≠ 0 := fun e0 => hl (by rw [e, h4 e0])
      rw [if_neg this]
    · rw [if_neg e, if_neg (by omega)]
  · show (s.2.2 || (decide (s.1 = 0) && !decide (l = s.2.1))) = _
    rw [h1, h2, h3]
    by_cases e : l = o
    · simp [e]
    · by_cases e0 : m = 0
      · subst e0; simp [e]
      · simp [e, e0]; omega
  · intro hz
    by_cases e : l = o
    · rw [if_pos e] at hz
      exact absurd (by rw [e, h4 hz]) hl
    · rw [if_neg e] at hz; omega
theorem cRel_same {V : List Int} {s : Int × Int × Bool} {o : Int} {m : Nat} (h : CRel s o m) (l : Int) (hv : valL V l ≠ 0) : CRel (cstep V s l) o m := by unfold cstep; rw [if_neg hv]; exact h
theorem cRel_end {V xs : List Int} {o : Int} {m : Nat} (h : CRel (cfold V xs) o m) (ht : hasTrue V xs = false) : clauseL V xs = if m = 0 then (2, 0) else if 1 < m then (0, 0) else (0, o) := by
  obtain ⟨h1, h2, h3, h4⟩ := h
  unfold clauseL
  rw [ht, h1, h2, h3]
  by_cases e0 : m = 0
  · subst e0; simp [h4 rfl]
  · by_cases e1 : 1 < m
    · simp [e0, e1]
    · simp [e0, e1]

theorem Row.drewN {w : World} {v : Value} {xs : List Int} (h : Row w v xs) (n : Nat) : Row (w.drewN n) v xs := h.keep (below_draws ⟨n, rfl⟩)

set_option maxRecDepth 4000 in
set_option maxHeartbeats 4000000 in
theorem refClause_any {w : World} {B : Nat} {v : Value} {p q : Nat} {V : List Int} (h : Asg w B v p q V) (u : Value) (xs : List Int) (hu : Row w u xs) (hxs : InW xs) (hnz : ∀ x ∈ xs, x ≠ 0) :
    Calls Try.prog 55 #[v, u] w fun e w' => e = .returned (.tuple #[.int .i64 (clauseL V xs).1, .int .i64 (clauseL V xs).2]) ∧ ∃ t, w' = w.drewN t := by
  obtain ⟨a, c, rfl, hxc, hcm, hx⟩ := hu
  unfold maxLen at hcm
  have HX := Lib.hid hx; clear hx
  have HW := Lib.hid hxs; clear hxs
  have HVA := Lib.hid (fun t l h1 h2 => refValue_any (h.drewN t) l h1 h2)
  have HT3 := Lib.hid h.vals.val
  have HNZ := Lib.hid (show ∀ k, k < xs.length → xs.getD k 0 ≠ 0 from fun k hk => by
    have := hnz _ (List.getElem_mem hk); simpa [List.getD, hk] using this)
  clear hnz
  obtain rfl := h.val
  clear h
  generalize hN : xs.length = n at *
  have HN := Lib.hid hN; clear hN
  go_enter Try.func55, Try.ntmps55
  go_wp2_with fail
  go_loopw [6, 7, 8] (fun one many i wr => ∃ (k : Nat) (o : Int) (m t : Nat), k ≤ n ∧ one = .int .i64 o ∧ many = .int .i64 m ∧ i = .int .i64 k ∧ wr = w.drewN t ∧ m ≤ k ∧ Hid (CRel (cfold V (xs.take k)) o m) ∧ Hid (hasTrue V (xs.take k) = false)) (fun _ _ i _ => n - (intOf i).toNat)
  case atStart => exact ⟨0, 0, 0, 0, Nat.zero_le _, rfl, rfl, rfl, rfl, Nat.le_refl _, ⟨rfl, rfl, rfl, fun _ => rfl⟩, rfl⟩
  case round =>
    obtain ⟨k, o, m, t, hk, rfl, rfl, rfl, rfl, hm, HF, HQ⟩ := hrel
    by_cases hlt : k < n
    · obtain ⟨b, off, ha, hb, hc⟩ := HX.out.resolve_left (by omega)
      subst ha
      have g1 := hc k hlt
      clear hc hb
      have hkl : k < xs.length := by rw [HN.out]; exact hlt
      have hyb := HW.out.get k
      have hy0 := HNZ.out k hlt
      have HS := Lib.hid (cfold_succ V xs k hkl)
      have HU := Lib.hid (hasTrue_succ V xs k hkl)
      have HG := Lib.hid (hasTrue_get V xs k hkl)
      generalize xs.getD k 0 = y at *
      obtain ⟨hy1, hy2⟩ := hyb
      have H := Lib.hid (HVA.out t y hy1 hy2)
      rcases HT3.out y with hv | hv | hv
      · rw [hv] at H
        have HU' := Lib.hid (show hasTrue V (xs.take (k + 1)) = false by rw [HU.out, HQ.out, hv]; rfl)
        have HC' := Lib.hid (show CRel (cfold V (xs.take (k + 1))) y (if y = o then m else m + 1) by rw [HS.out]; exact cRel_step HF.out y hy0 hv)
        clear hv HG HU HS hy0
        by_cases hyo : y = o
        · subst hyo
          rw [if_pos rfl] at HC'
          go_wp2_with (go_at_call 77; refine H.out.mono ?_; rintro e w' ⟨rfl, tt, rfl⟩)
          go_roundw
          case rel => exact ⟨k + 1, y, m, _, by omega, rfl, rfl, by go_num, rfl, by omega, HC'.out, HU'.out⟩
          case measure => simp [intOf]; omega
        · have hyob : (y != o) = true := by simp [hyo]
          rw [if_neg hyo] at HC'
          go_wp2_with (go_at_call 77; refine H.out.mono ?_; rintro e w' ⟨rfl, tt, rfl⟩)
          go_roundw
          case rel => exact ⟨k + 1, y, m + 1, _, by omega, rfl, by go_num, by go_num, rfl, by omega, HC'.out, HU'.out⟩
          case measure => simp [intOf]; omega
      · have HR := Lib.hid (show clauseL V xs = (1, 0) by unfold clauseL; rw [if_pos (HG.out hv)])
        rw [hv] at H
        clear hv HG HU HS hy0
        go_wp2_with (go_at_call 77; refine H.out.mono ?_; rintro e w' ⟨rfl, tt, rfl⟩)
        go_ret2
        exact ⟨by rw [HR.out]; rfl, _, rfl⟩
      · rw [hv] at H
        have HU' := Lib.hid (show hasTrue V (xs.take (k + 1)) = false by rw [HU.out, HQ.out, hv]; rfl)
        have HC' := Lib.hid (show CRel (cfold V (xs.take (k + 1))) o m by rw [HS.out]; exact cRel_same HF.out y (by omega))
        clear hv HG HU HS hy0
        go_wp2_with (go_at_call 77; refine H.out.mono ?_; rintro e w' ⟨rfl, tt, rfl⟩)
        go_roundw
        case rel => exact ⟨k + 1, o, m, _, by omega, rfl, rfl, by go_num, rfl, by omega, HC'.out, HU'.out⟩
        case measure => simp [intOf]; omega
    · have hkn : k = n := by omega
      have hl : xs.take k = xs := List.take_of_length_le (by rw [HN.out]; omega)
      have HR := Lib.hid (show clauseL V xs = if m = 0 then (2, 0) else if 1 < m then (0, 0) else (0, o) by
        have h1 := HF.out
        have h2 := HQ.out
        rw [hl] at h1 h2
        exact cRel_end h1 h2)
      clear hl hlt HF HQ
      subst hkn
      by_cases e0 : m = 0
      · subst e0
        go_wp2
        go_ret2
        exact ⟨by rw [HR.out]; rfl, _, rfl⟩
      · have e0b : ((m : Int) == 0) = false := by simp; omega
        rw [if_neg e0] at HR
        by_cases e1 : 1 < m
        · rw [if_pos e1] at HR
          go_wp2
          go_ret2
          exact ⟨by rw [HR.out]; rfl, _, rfl⟩
        · rw [if_neg e1] at HR
          go_wp2
          go_ret2
          exact ⟨by rw [HR.out]; rfl, _, rfl⟩
end Go.Proofs.Ytjlmooimdogmjaa
