/- Levels of variables: what a decision with all that follows, what going back leaves of them. No conditions beyond those typed. -/
import Derived.Test.YtmlgpnaikdpifaaPrP
set_option linter.unusedVariables false
set_option linter.unusedSimpArgs false
namespace Go.Proofs.Ytmlgpnaikdpifaa
open Go.RowKit

section
variable {p : Pr}
theorem levP_none {v : Nat} : levP p (v : Int) = -1 ↔ posV p.tr v = none := by
  unfold levP
  rw [Int.toNat_natCast]
  cases posV p.tr v with
  | none => simp
  | some i => simp
theorem levP_some {v i : Nat} (h : posV p.tr v = some i) : levP p (v : Int) = ((p.st.countP fun s => decide (s ≤ i) : Nat) : Int) := by
  unfold levP
  rw [Int.toNat_natCast, h]
theorem levP_ge (v : Nat) : -1 ≤ levP p (v : Int) := by
  unfold levP
  split <;> omega
theorem levP_le (v : Nat) : levP p (v : Int) ≤ (p.st.length : Int) := by
  unfold levP
  split
  · exact Int.ofNat_le.2 (List.countP_le_length)
  · omega
theorem val_lev {v : Nat} (h : 1 ≤ v) : valP p (v : Int) = 0 ↔ levP p (v : Int) = -1 := (valP_pos v h).trans levP_none.symm
theorem levP_base {v : Nat} (hs : p.st = []) : levP p (v : Int) = -1 ∨ levP p (v : Int) = 0 := by
  have h1 := levP_ge (p := p) v
  have h2 := levP_le (p := p) v
  rw [hs] at h2
  simp at h2
  omega
theorem levP_same {q : Pr} (h1 : q.tr = p.tr) (h2 : q.st = p.st) (v : Int) : levP q v = levP p v := by unfold levP; rw [h1, h2]

/-- A decision, and what followed of it. -/
structure NextP (p q : Pr) : Prop where
  tr : ∃ m, q.tr = p.tr ++ m
  st : q.st = p.st ++ [p.tr.length]
theorem next_of {l x : Int} {q : Pr} (h : decOk p l = true) (k : PrpR (decdP p l) x q) : NextP p q := by
  obtain ⟨_, _, h3, ⟨m, r, h4, _⟩, _⟩ := k
  unfold decdP at h3 h4
  rw [if_pos h] at h3 h4
  exact ⟨⟨[l] ++ m, by rw [h4, List.append_assoc]⟩, h3⟩
theorem NextP.old {q : Pr} (h : NextP p q) (_hw : PrW p) {v : Nat} (hv : levP p (v : Int) ≠ -1) : levP q (v : Int) = levP p (v : Int) := by
  obtain ⟨m, hm⟩ := h.tr
  cases hp : posV p.tr v with
  | none => exact absurd (levP_none.2 hp) hv
  | some i =>
    have hq : posV q.tr v = some i := by rw [hm]; exact posV_app hp
    rw [levP_some hp, levP_some hq, h.st, List.countP_append]
    have := (posV_lt hp).1
    simp [show ¬ p.tr.length ≤ i by omega]
theorem NextP.new {q : Pr} (h : NextP p q) (hw : PrW p) {v : Nat} (hv : levP p (v : Int) = -1) : levP q (v : Int) = -1 ∨ levP q (v : Int) = (q.st.length : Int) := by
  obtain ⟨m, hm⟩ := h.tr
  have hp := levP_none.1 hv
  cases hq : posV q.tr v with
  | none => exact .inl (levP_none.2 hq)
  | some j =>
    right
    have hj : p.tr.length ≤ j := by
      rcases Nat.lt_or_ge j p.tr.length with hlt | hge
      · exfalso
        have h1 := (posV_lt hq).2
        rw [hm] at h1
        have e : (p.tr ++ m).getD j 0 = p.tr.getD j 0 := by simp [List.getD, List.getElem?_append_left hlt]
        rw [e] at h1
        exact posV_none.1 hp _ (getD_mem hlt) h1
      · exact hge
    rw [levP_some hq]
    have : q.st.countP (fun s => decide (s ≤ j)) = q.st.length := List.countP_eq_length.2 fun s hs => by
      rw [h.st] at hs
      rcases List.mem_append.1 hs with hs | hs
      · have := hw.lt s hs; exact decide_eq_true (by omega)
      · simp at hs; exact decide_eq_true (by omega)
    rw [this]
theorem NextP.len {q : Pr} (h : NextP p q) : q.st.length = p.st.length + 1 := by rw [h.st]; simp
/-- The last level gone back on. -/
theorem NextP.back {q : Pr} (h : NextP p q) : (backP q ((q.st.length : Int) - 1)).tr = p.tr ∧ (backP q ((q.st.length : Int) - 1)).st = p.st := by
  obtain ⟨m, hm⟩ := h.tr
  have hl := h.len
  have hk : ((q.st.length : Int) - 1).toNat = p.st.length := by omega
  unfold backP
  rw [hk, if_pos (by omega)]
  have e : q.st.getD p.st.length 0 = p.tr.length := by rw [h.st]; simp [List.getD]
  rw [e]
  constructor
  · show q.tr.take p.tr.length = p.tr
    rw [hm, List.take_left']
    rfl
  · show q.st.take p.st.length = p.st
    rw [h.st, List.take_left']
    rfl
/-- Gone back: the higher levels are unknown, the others as they were. -/
theorem lev_back (hw : PrW p) {k : Nat} (v : Nat) : levP (backP p (k : Int)) (v : Int) = if 0 ≤ levP p (v : Int) ∧ levP p (v : Int) ≤ (k : Int) then levP p (v : Int) else -1 := by
  have hge := levP_ge (p := p) v
  by_cases hk : k < p.st.length
  · have e : backP p (k : Int) = { p with tr := p.tr.take (p.st.getD k 0), rs := p.rs.take (p.st.getD k 0), st := p.st.take k } := by unfold backP; rw [Int.toNat_natCast, if_pos hk]
    have es : p.st.getD k 0 = p.st[k] := by simp [List.getD, hk]
    rw [es] at e
    cases hp : posV p.tr v with
    | none =>
      have h1 := levP_none.2 hp
      rw [if_neg (by omega), levP_none, e]
      rw [posV_none] at hp ⊢
      exact fun l hl => hp l (List.mem_of_mem_take hl)
    | some i =>
      have hi := posV_lt hp
      by_cases hlt : i < p.st[k]
      · have hq : posV (p.tr.take p.st[k]) v = some i := by
          cases hq : posV (p.tr.take p.st[k]) v with
          | none =>
            exfalso
            have := posV_none.1 hq (p.tr.getD i 0) (by
              have : (p.tr.take p.st[k])[i]'(by simp; omega) ∈ p.tr.take p.st[k] := List.getElem_mem _
              rw [List.getElem_take] at this
              simpa [List.getD, hi.1] using this)
            exact this hi.2
          | some j =>
            have := posV_app (m := p.tr.drop p.st[k]) hq
            rw [List.take_append_drop, hp] at this
            rw [Option.some.inj this]
        have hc : (p.st.take k).countP (fun s => decide (s ≤ i)) = p.st.countP (fun s => decide (s ≤ i)) := by
          conv => rhs; rw [← List.take_append_drop k p.st]
          rw [List.countP_append]
          have : (p.st.drop k).countP (fun s => decide (s ≤ i)) = 0 := List.countP_eq_zero.2 fun s hs => by
            obtain ⟨j, hj, rfl⟩ := List.getElem_of_mem hs
            rw [List.getElem_drop]
            have hj' : k + j < p.st.length := by simp at hj; omega
            have : p.st[k] ≤ p.st[k + j] := by
              rcases Nat.eq_zero_or_pos j with e | e
              · subst e; exact Nat.le_refl _
              · exact Nat.le_of_lt (List.pairwise_iff_getElem.1 hw.sorted k (k + j) hk hj' (by omega))
            simp; omega
          omega
        have hle : (p.st.take k).countP (fun s => decide (s ≤ i)) ≤ k := Nat.le_trans List.countP_le_length (by simp; omega)
        have h1 := levP_some hp
        rw [levP_some (p := backP p (k : Int)) (i := i) (by rw [e]; exact hq), if_pos ⟨by omega, by rw [h1, ← hc]; omega⟩, h1, ← hc, e]
      · have hq : posV (p.tr.take p.st[k]) v = none := by
          cases hq : posV (p.tr.take p.st[k]) v with
          | none => rfl
          | some j =>
            exfalso
            have h2 := (posV_lt hq).1
            have := posV_app (m := p.tr.drop p.st[k]) hq
            rw [List.take_append_drop, hp] at this
            have := Option.some.inj this
            simp at h2
            omega
        have hc : k + 1 ≤ p.st.countP (fun s => decide (s ≤ i)) := by
          conv => rhs; rw [← List.take_append_drop (k + 1) p.st]
          rw [List.countP_append]
          have : (p.st.take (k + 1)).countP (fun s => decide (s ≤ i)) = (p.st.take (k + 1)).length := List.countP_eq_length.2 fun s hs => by
            obtain ⟨j, hj, rfl⟩ := List.getElem_of_mem hs
            rw [List.getElem_take]
            have hj' : j ≤ k := by simp at hj; omega
            have : p.st[j] ≤ p.st[k] := by
              rcases Nat.lt_or_ge j k with e | e
              · exact Nat.le_of_lt (List.pairwise_iff_getElem.1 hw.sorted j k (by omega) hk e)
              · have : j = k := by omega
                subst this; exact Nat.le_refl _
            exact decide_eq_true (by omega)
          have h3 : (p.st.take (k + 1)).length = k + 1 := by simp; omega
          omega
        have h1 := levP_some hp
        rw [if_neg (by omega), levP_none, e]
        exact hq
  · have e : backP p (k : Int) = p := by unfold backP; rw [Int.toNat_natCast, if_neg hk]
    have := levP_le (p := p) v
    rw [e]
    split
    · rfl
    · omega
theorem back_len {k : Nat} (hk : k ≤ p.st.length) : (backP p (k : Int)).st.length = k := by
  unfold backP
  rw [Int.toNat_natCast]
  split
  · simp; omega
  · omega
theorem backP_n (k : Int) : (backP p k).n = p.n := by unfold backP; split <;> rfl
theorem backP_cl (k : Int) : (backP p k).cl = p.cl := by unfold backP; split <;> rfl
theorem decdP_n (l : Int) : (decdP p l).n = p.n := by unfold decdP; split <;> rfl
theorem decdP_cl (l : Int) : (decdP p l).cl = p.cl := by unfold decdP; split <;> rfl
end
end Go.Proofs.Ytmlgpnaikdpifaa
