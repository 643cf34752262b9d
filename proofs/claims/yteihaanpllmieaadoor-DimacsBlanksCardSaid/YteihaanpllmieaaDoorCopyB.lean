/- The contract of skolemref.Bytes: a copy. Conditions: the slice reads as bytes, and is not too long. -/
import Derived.Test.YteihaanpllmieaaDoorAppStr
namespace Go.Proofs.YteihaanpllmieaaDoor
open Go.RowKit

/-- 'make([]byte, 0, n)'. -/
theorem wpList_make0U {ops : Array Oper} {rest : List Oper} {o : Oper} {a : Act} {Q : Exit → Act → World → Prop} (hgd : o.guard = none) (l c : Operand) (ho : o.op = Op.makeSlice 22 l c)
    (w : World) (n : Nat) (hl : a.eval l = .int .i64 0) (hc : a.eval c = .int .i64 (n : Int)) (hn : n < 1099511627776)
    (h : ∀ w', w'.ownsRow w.heap.size 5 1 (.slice (some ⟨w.heap.size, 0, none⟩) 0 n) 0 (([] : List Int).map (Value.int .u8)) → Below w.heap.size w w' → w.heap.size < w'.heap.size → wpList Tryd.prog ops Q rest (a.put o.dst (.slice (some ⟨w.heap.size, 0, none⟩) 0 n)) w') :
    wpList Tryd.prog ops Q (o :: rest) a w := by
  obtain ⟨i0, hi, hz0, hz1, hz2⟩ := info_parts infoU8
  refine wpList_make_own _ hgd l c 22 ho w.heap.size 5 i0 (.int .u8 0) 1 Tryd.underlying22 hi hz0 hz1 _ _ _ n hl hc rfl (by rw [hz2]; omega) (by unfold maxLen; omega) (Nat.le_refl _) ?_
  intro w' h1 h2
  have hlt := h1.lt w.heap.size rfl
  exact h w' (by simpa using h1) ((Below.refl _ w).grown h2 (Nat.le_refl _) fun k hk => by cases hk) hlt.2

set_option maxHeartbeats 1000000 in
theorem copyB_any (v : Value) (xs : List Int) (w : World) (hv : RowG (Value.int .u8) 0 w v xs) (hn : xs.length ≤ 10000) :
    Calls Tryd.prog 22 #[v] w fun e w' => (∃ v', e = .returned v' ∧ w'.ownsRow w.heap.size 5 1 v' xs.length (xs.map (Value.int .u8))) ∧ Below w.heap.size w w' := by
  obtain ⟨a, c, rfl, hxc, hcm, hx⟩ := hv
  unfold maxLen at hcm
  have HX := Lib.hid hx; clear hx
  generalize hN : xs.length = n at *
  have HN := Lib.hid hN; clear hN
  go_enter Tryd.func22, Tryd.ntmps22
  go_wp2_with (at_make; refine wpList_make0U rfl _ _ rfl _ n rfl rfl (by omega) ?_; intro w1 hown hb1 hs1)
  go_loopw [3, 4] (fun o i wr => ∃ k : Nat, k ≤ n ∧ i = .int .i64 k ∧ wr.ownsRow w.heap.size 5 1 o k ((xs.take k).map (Value.int .u8)) ∧ Below w.heap.size w wr ∧ w.heap.size < wr.heap.size) (fun _ i _ => n - (intOf i).toNat)
  case atStart => exact ⟨0, Nat.zero_le _, rfl, by simpa using hown, hb1, hs1⟩
  case round =>
    obtain ⟨k, hk, rfl, hownr, hbr, hsr⟩ := hrel
    clear hown hb1 hs1
    by_cases hlt : k < n
    · obtain ⟨b, off, ha, hb, hc⟩ := HX.out.resolve_left (by omega)
      subst ha
      have g1 : wr.cell? ⟨b, off + k, none⟩ = some (.int .u8 (xs.getD k 0)) := (hbr.cell (p := ⟨b, off + k, none⟩) hb).trans (hc k hlt)
      clear hc
      have HT := Lib.hid (take_snoc xs k (by rw [HN.out]; exact hlt))
      generalize xs.getD k 0 = y at *
      go_wp2_with (at_builtin; refine wpList_app1G (Value.int .u8) 22 5 (.int .u8 0) 1 Tryd.underlying22 infoU8 rfl (by decide) rfl _ _ rfl wr w.heap.size _ _ _ y rfl hownr (by omega) (by omega) rfl rfl ?_; intro v' w2 hown2 hb3)
      go_roundw
      case rel => exact ⟨k + 1, by omega, by go_num, by rw [HT.out]; exact hown2, hbr.trans hb3.below, Nat.lt_of_lt_of_le hsr hb3.below.size⟩
      case measure => simp [intOf]; omega
    · have hkn : k = n := by omega
      rw [hkn, List.take_of_length_le (by rw [HN.out]; exact Nat.le_refl _)] at hownr
      clear hkn
      go_wp2
      go_ret
      exact ⟨⟨_, rfl, hownr⟩, hbr⟩
end Go.Proofs.YteihaanpllmieaaDoor
