/- The contract of skolemref.Clauses: a row of the call's own of the same rows. Conditions: the row's cells are slices, and it is short. -/
import Derived.Test.YtkjaepcdhclmfaaClIG
import Derived.Test.YtkjaepcdhclmfaaAppS
import Derived.Test.YtkjaepcdhclmfaaPrT
set_option linter.unusedVariables false
set_option linter.unusedSimpArgs false
namespace Go.Proofs.Ytkjaepcdhclmfaa
open Go.RowKit

/-- A row of slices, as it reads. -/
def nilSl : Value := .slice none 0 0
def HRow (w : World) (v : Value) (us : List Value) : Prop :=
  ∃ a c, v = .slice a us.length c ∧ us.length ≤ c ∧ c ≤ maxLen ∧ (us.length = 0 ∨ ∃ b off, a = some ⟨b, off, none⟩ ∧ b < w.heap.size ∧ ∀ j, j < us.length → w.cell? ⟨b, off + j, none⟩ = some (us.getD j nilSl))
def IsS (u : Value) : Prop := ∃ a n c, u = .slice a n c
theorem HRow.keep {w w' : World} {v : Value} {us : List Value} (h : HRow w v us) (hb : Below w.heap.size w w') : HRow w' v us := by
  obtain ⟨a, c, e, h1, h2, h3⟩ := h
  exact ⟨a, c, e, h1, h2, h3.imp id fun ⟨b, off, e, h4, h5⟩ => ⟨b, off, e, Nat.lt_of_lt_of_le h4 hb.size, fun j hj => (hb.cell (p := ⟨b, off + j, none⟩) h4).trans (h5 j hj)⟩⟩
theorem HRow.own {w : World} {B : Nat} {v : Value} {n : Nat} {us : List Value} (h : w.ownsRow B 22 1 v n us) (hl : us.length = n) : HRow w v us := by
  subst hl
  rcases h.2 with ⟨e0, e1⟩ | ⟨g, cap, cur, e0, hg, hh, h1, h2, _⟩
  · exact ⟨none, 0, by rw [e0, e1], by omega, by unfold maxLen; omega, .inl e1⟩
  · refine ⟨_, cap, e0, h1, h2, ?_⟩
    subst e0
    have hgl : g < w.heap.size := by
      rcases Nat.lt_or_ge g w.heap.size with h' | h'
      · exact h'
      · rw [Array.getElem?_eq_none h'] at hh; cases hh
    refine .inr ⟨g, 0, rfl, hgl, fun j hj => ?_⟩
    have hc := h.cells (g := g) rfl j _ (show us[j]? = some (us.getD j nilSl) by simp [List.getD, hj])
    rwa [show (⟨g, 0, none⟩ : Addr).add j = ⟨g, 0 + j, none⟩ by unfold Addr.add; split <;> simp_all] at hc
/-- A part of such a row. -/
theorem HRow.head {w : World} {a : Option Addr} {n c : Nat} {us : List Value} (h : HRow w (.slice a n c) us) {k : Nat} (hk : k ≤ us.length) : HRow w (.slice a k c) (us.take k) := by
  obtain ⟨a', c', e, h1, h2, h3⟩ := h
  injection e with e1 e2 e3
  subst e1; subst e3
  have hl : (us.take k).length = k := by simp; omega
  refine ⟨a, c, by rw [hl], by omega, h2, ?_⟩
  rw [hl]
  rcases h3 with h3 | ⟨b, off, e, h4, h5⟩
  · left; omega
  · right
    refine ⟨b, off, e, h4, fun j hj => ?_⟩
    rw [h5 j (by omega)]
    simp [List.getD, List.getElem?_take, hj]
theorem take_snocV (us : List Value) (k : Nat) (h : k < us.length) : us.take (k + 1) = us.take k ++ [us.getD k nilSl] := by
  rw [List.take_succ_eq_append_getElem h]
  simp [List.getD, h]
set_option maxHeartbeats 1000000 in
/-- 'make([][]int, 0, n)'. -/
theorem wpList_make0R {ops : Array Oper} {rest : List Oper} {o : Oper} {a : Act} {Q : Exit → Act → World → Prop} (hgd : o.guard = none) (l c : Operand) (ho : o.op = Op.makeSlice 27 l c)
    (w : World) (n : Nat) (hl : a.eval l = .int .i64 0) (hc : a.eval c = .int .i64 (n : Int)) (hn : n < 1099511627776)
    (h : ∀ w', w'.ownsRow w.heap.size 22 1 (.slice (some ⟨w.heap.size, 0, none⟩) 0 n) 0 [] → Below w.heap.size w w' → wpList Try.prog ops Q rest (a.put o.dst (.slice (some ⟨w.heap.size, 0, none⟩) 0 n)) w') :
    wpList Try.prog ops Q (o :: rest) a w := by
  obtain ⟨i0, hi, hz0, hz1, hz2⟩ := info_parts infoInts
  refine wpList_make_own _ hgd l c 27 ho w.heap.size 22 i0 (.slice none 0 0) 1 Try.underlying27 hi hz0 hz1 _ _ _ n hl hc rfl (by rw [hz2]; omega) (by unfold maxLen; omega) (Nat.le_refl _) ?_
  intro w' h1 h2
  exact h w' (by simpa using h1) ((Below.refl _ w).grown h2 (Nat.le_refl _) fun k hk => by cases hk)

set_option maxRecDepth 4000 in
set_option maxHeartbeats 2000000 in
theorem clsR_any (v : Value) (us : List Value) (w : World) (hv : HRow w v us) (hs : ∀ u ∈ us, IsS u) (hn : us.length ≤ 1000) :
    Calls Try.prog 20 #[v] w fun e w' => ∃ o, e = .returned o ∧ w'.ownsRow w.heap.size 22 1 o us.length us ∧ Below w.heap.size w w' := by
  obtain ⟨a, c, rfl, hxc, hcm, hx⟩ := hv
  unfold maxLen at hcm
  have HX := Lib.hid hx; clear hx
  have HS : Hid (∀ k, k < us.length → IsS (us.getD k nilSl)) := fun k hk => hs _ (by simp [List.getD, hk])
  clear hs
  generalize hN : us.length = n at *
  have HN := Lib.hid hN; clear hN
  go_enter Try.func20, Try.ntmps20
  go_wp2_with (at_make; refine wpList_make0R rfl _ _ rfl _ n rfl rfl (by omega) ?_; intro w1 hown hb1)
  go_loopw [3, 4] (fun o i wr => ∃ k : Nat, k ≤ n ∧ i = .int .i64 k ∧ wr.ownsRow w.heap.size 22 1 o k (us.take k) ∧ Below w.heap.size w wr) (fun _ i _ => n - (intOf i).toNat)
  case atStart => exact ⟨0, Nat.zero_le _, rfl, by simpa using hown, hb1⟩
  case round =>
    obtain ⟨k, hk, rfl, hownr, hbr⟩ := hrel
    clear hown hb1
    by_cases hlt : k < n
    · obtain ⟨b, off, ha, hb, hc⟩ := HX.out.resolve_left (by omega)
      subst ha
      have g1 : wr.cell? ⟨b, off + k, none⟩ = some (us.getD k nilSl) := (hbr.cell (p := ⟨b, off + k, none⟩) hb).trans (hc k hlt)
      have hsh := HS.out k hlt
      clear hc
      have HT := Lib.hid (take_snocV us k (by rw [HN.out]; exact hlt))
      generalize us.getD k nilSl = y at *
      obtain ⟨ya, yn, yc, rfl⟩ := hsh
      have HBR := Lib.hid hbr
      clear hbr
      go_wp2_with (at_builtin; refine wpList_appV 27 22 (.slice none 0 0) 24 Try.underlying27 infoInts rfl (by decide) rfl _ _ rfl wr w.heap.size _ _ _ _ rfl hownr HBR.out.size (by omega) _ rfl rfl rfl ?_; intro o2 w2 ho2 hap)
      go_roundw
      case rel => exact ⟨k + 1, by omega, by go_num, by rw [HT.out]; exact ho2, HBR.out.trans hap.below⟩
      case measure => simp [intOf]; omega
    · have hkn : k = n := by omega
      rw [hkn, List.take_of_length_le (by rw [HN.out]; exact Nat.le_refl _)] at hownr
      clear hkn
      go_wp2
      go_ret
      exact ⟨_, rfl, hownr, hbr⟩
end Go.Proofs.Ytkjaepcdhclmfaa
