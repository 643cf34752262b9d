/- The contracts of slices.Concat of two slices of blocks and of two slices of ints. Conditions: they read as these lists, short ones; of blocks the first has one at least. -/
import Derived.Test.YtcodmijphejfdaaDoorBrow
import Derived.Test.YtcodmijphejfdaaDoorGrowB
namespace Go.Proofs.YtcodmijphejfdaaDoor
open Go.RowKit

set_option maxHeartbeats 1000000 in
theorem concatB_any (q : Nat) (a1 a2 : Option Addr) (c1 c2 : Nat) (bs1 bs2 : List Blk) (w : World) (g0 : w.cell? ⟨q, 0, none⟩ = some (.slice a1 bs1.length c1)) (g1 : w.cell? ⟨q, 1, none⟩ = some (.slice a2 bs2.length c2))
    (h1 : BRowsAt w a1 c1 bs1) (h2 : BRowsAt w a2 c2 bs2) (hn1 : 0 < bs1.length) (hn : bs1.length + bs2.length ≤ 1000000000) :
    Calls Tryd.prog 26 #[.slice (some ⟨q, 0, none⟩) 2 2] w fun e w' => (∃ a cap, e = .returned (.slice a (bs1 ++ bs2).length cap) ∧ BRowsAt w' a cap (bs1 ++ bs2)) ∧ Below w.heap.size w w' := by
  obtain ⟨fl1, hf1, hc1⟩ := h1.fl
  obtain ⟨fl2, hf2, hc2⟩ := h2.fl
  have hl1 := hf1.len
  have hl2 := hf2.len
  have hq : q < w.heap.size := World.block_lt_of_cell? w _ g0
  have HE : Hid (∀ W v n fl, W.ownsRow w.heap.size 58 2 v n fl → BFl W fl (bs1 ++ bs2) → (∃ a cap, Ending.returned v = .returned (.slice a (bs1 ++ bs2).length cap) ∧ BRowsAt W a cap (bs1 ++ bs2))) := fun W v n fl h3 h4 => by
    obtain ⟨a, cap, rfl, h5⟩ := own_brows h3 h4
    exact ⟨a, cap, rfl, h5⟩
  have HF1 := Lib.hid (fun W (hW : Below w.heap.size w W) => hf1.keep hW)
  have HF2 := Lib.hid (fun W (hW : Below w.heap.size w W) => (hf1.keep hW).append (hf2.keep hW))
  have HC1 : Hid (∀ W, Below w.heap.size w W → bs1.length = 0 ∨ ∃ ad, a1 = some ad ∧ ∀ j u, fl1[j]? = some u → W.cell? (ad.add j) = some u) := fun W hW => hc1.imp id fun ⟨ad, e, h⟩ => ⟨ad, e, fun j u hj => (hW.cell (World.block_lt_of_cell? w _ (h j u hj))).trans (h j u hj)⟩
  have HC2 : Hid (∀ W, Below w.heap.size w W → bs2.length = 0 ∨ ∃ ad, a2 = some ad ∧ ∀ j u, fl2[j]? = some u → W.cell? (ad.add j) = some u) := fun W hW => hc2.imp id fun ⟨ad, e, h⟩ => ⟨ad, e, fun j u hj => (hW.cell (World.block_lt_of_cell? w _ (h j u hj))).trans (h j u hj)⟩
  have H1 := Lib.hid hf1.one
  have H2 := Lib.hid hf2.one
  have HL1 := Lib.hid hl1
  have HL2 := Lib.hid hl2
  have HG := Lib.hid (fun W => growB_new (bs1.length + bs2.length) W (by omega) hn)
  have HK : Hid (∀ W, Below w.heap.size w W → W.cell? ⟨q, 0, none⟩ = some (.slice a1 bs1.length c1) ∧ W.cell? ⟨q, 1, none⟩ = some (.slice a2 bs2.length c2)) := fun W hW => ⟨(hW.cell (p := ⟨q, 0, none⟩) hq).trans g0, (hW.cell (p := ⟨q, 1, none⟩) hq).trans g1⟩
  clear h1 h2 hf1 hf2 hc1 hc2 hl1 hl2 hq
  generalize hP : (bs1 ++ bs2) = bs at *
  clear hP
  generalize bs1.length = n1 at *
  generalize bs2.length = n2 at *
  have HCA := Lib.hid (show ((n1 : Int) + (n2 : Int)) = ((n1 + n2 : Nat) : Int) by omega)
  have hd1 : decide ((n1 : Int) < 0) = false := by simp
  have hd2 : decide ((n1 : Int) + (n2 : Int) < 0) = false := by rw [decide_eq_false_iff_not]; omega
  go_enter Tryd.func26, Tryd.ntmps26
  go_wp2_with fail
  refine wp_loop_rounds 3 ?_
  rw [rounds_succ]
  go_wp2_with fail
  rw [rounds_succ]
  go_wp2_with fail
  rw [rounds_succ]
  go_wp2_with (go_at_call 48; rw [HCA.out]; refine (HG.out _).mono ?_; rintro e w1 ⟨v1, rfl, hown1, hb1⟩; obtain ⟨k0, k1⟩ := HK.out _ hb1; have hs1 := hb1.size)
  refine wp_loop_rounds 3 ?_
  rw [rounds_succ]
  go_wp2_with (at_builtin; refine wpList_appC 22 58 _ 2 32 Tryd.underlying22 infoBlk rfl (by decide) (by decide) rfl _ _ rfl w1 w.heap.size v1 0 [] a1 n1 c1 fl1 hown1 hs1 (by omega) HL1.out (HC1.out _ hb1) H1.out rfl rfl ?_; intro v2 w2 hown2 hap2; have hb2 := hb1.trans (hap2.below); obtain ⟨k2, k3⟩ := HK.out _ hb2; have hs2 := hb2.size)
  rw [rounds_succ]
  go_wp2_with (at_builtin; refine wpList_appC 22 58 _ 2 32 Tryd.underlying22 infoBlk rfl (by decide) (by decide) rfl _ _ rfl w2 w.heap.size v2 _ _ a2 n2 c2 fl2 hown2 hs2 (by omega) HL2.out (HC2.out _ hb2) H2.out rfl rfl ?_; intro v3 w3 hown3 hap3; have hb3 := hb2.trans (hap3.below))
  rw [rounds_succ]
  go_wp2_with fail
  go_ret
  exact ⟨HE.out _ _ _ _ hown3 (by rw [List.nil_append]; exact HF2.out _ hb3), hb3⟩

set_option maxHeartbeats 1000000 in
theorem concatI_any (q : Nat) (a1 a2 : Option Addr) (c1 c2 : Nat) (xs ys : List Int) (w : World) (g0 : w.cell? ⟨q, 0, none⟩ = some (.slice a1 xs.length c1)) (g1 : w.cell? ⟨q, 1, none⟩ = some (.slice a2 ys.length c2))
    (h1 : RowAt w a1 c1 xs) (h2 : RowAt w a2 c2 ys) (hn : xs.length + ys.length ≤ 1000000000) :
    Calls Tryd.prog 78 #[.slice (some ⟨q, 0, none⟩) 2 2] w fun e w' => (∃ v, e = .returned v ∧ Row w' v (xs ++ ys)) ∧ Below w.heap.size w w' := by
  have hc1 := row_cells h1
  have hc2 := row_cells h2
  have hq : q < w.heap.size := World.block_lt_of_cell? w _ g0
  have HE : Hid (∀ W v n, W.ownsRow w.heap.size 3 1 v n (xs.map (Value.int .i64) ++ ys.map (Value.int .i64)) → Row W v (xs ++ ys)) := fun W v n h3 => by
    rw [← List.map_append] at h3
    exact own_row h3
  have HC1 : Hid (∀ W, Below w.heap.size w W → xs.length = 0 ∨ ∃ ad, a1 = some ad ∧ ∀ j u, (xs.map (Value.int .i64))[j]? = some u → W.cell? (ad.add j) = some u) := fun W hW => hc1.imp id fun ⟨ad, e, h⟩ => ⟨ad, e, fun j u hj => (hW.cell (World.block_lt_of_cell? w _ (h j u hj))).trans (h j u hj)⟩
  have HC2 : Hid (∀ W, Below w.heap.size w W → ys.length = 0 ∨ ∃ ad, a2 = some ad ∧ ∀ j u, (ys.map (Value.int .i64))[j]? = some u → W.cell? (ad.add j) = some u) := fun W hW => hc2.imp id fun ⟨ad, e, h⟩ => ⟨ad, e, fun j u hj => (hW.cell (World.block_lt_of_cell? w _ (h j u hj))).trans (h j u hj)⟩
  have H1 := Lib.hid (ints_one xs)
  have H2 := Lib.hid (ints_one ys)
  have HL1 := Lib.hid (show (xs.map (Value.int .i64)).length = xs.length * 1 by simp)
  have HL2 := Lib.hid (show (ys.map (Value.int .i64)).length = ys.length * 1 by simp)
  have HG : Hid (∀ W, Calls Tryd.prog 91 #[.slice none 0 0, .int .i64 ((xs.length + ys.length : Nat) : Int)] W fun e w' => ∃ v, e = .returned v ∧ w'.ownsRow W.heap.size 3 1 v 0 [] ∧ Below W.heap.size W w') := fun W => by
    by_cases h0 : 0 < xs.length + ys.length
    · exact growI_new _ W h0 hn
    · have h0' : xs.length + ys.length = 0 := by omega
      rw [h0']
      exact (growI_zero W).mono fun e w' ⟨e1, e2⟩ => by subst e2; exact ⟨_, e1, ⟨rfl, .inl ⟨rfl, rfl⟩⟩, Below.refl _ _⟩
  have HK : Hid (∀ W, Below w.heap.size w W → W.cell? ⟨q, 0, none⟩ = some (.slice a1 xs.length c1) ∧ W.cell? ⟨q, 1, none⟩ = some (.slice a2 ys.length c2)) := fun W hW => ⟨(hW.cell (p := ⟨q, 0, none⟩) hq).trans g0, (hW.cell (p := ⟨q, 1, none⟩) hq).trans g1⟩
  clear h1 h2 hc1 hc2 hq
  generalize hP : (xs ++ ys) = zs at *
  clear hP
  generalize xs.map (Value.int .i64) = fl1 at *
  generalize ys.map (Value.int .i64) = fl2 at *
  generalize xs.length = n1 at *
  generalize ys.length = n2 at *
  have HCA := Lib.hid (show ((n1 : Int) + (n2 : Int)) = ((n1 + n2 : Nat) : Int) by omega)
  have hd1 : decide ((n1 : Int) < 0) = false := by simp
  have hd2 : decide ((n1 : Int) + (n2 : Int) < 0) = false := by rw [decide_eq_false_iff_not]; omega
  go_enter Tryd.func78, Tryd.ntmps78
  go_wp2_with fail
  refine wp_loop_rounds 3 ?_
  rw [rounds_succ]
  go_wp2_with fail
  rw [rounds_succ]
  go_wp2_with fail
  rw [rounds_succ]
  go_wp2_with (go_at_call 91; rw [HCA.out]; refine (HG.out _).mono ?_; rintro e w1 ⟨v1, rfl, hown1, hb1⟩; obtain ⟨k0, k1⟩ := HK.out _ hb1; have hs1 := hb1.size)
  refine wp_loop_rounds 3 ?_
  rw [rounds_succ]
  go_wp2_with (at_builtin; refine wpList_appC 30 3 _ 1 8 Tryd.underlying30 infoInt rfl (by decide) (by decide) rfl _ _ rfl w1 w.heap.size v1 0 [] a1 n1 c1 fl1 hown1 hs1 (by omega) HL1.out (HC1.out _ hb1) H1.out rfl rfl ?_; intro v2 w2 hown2 hap2; have hb2 := hb1.trans (hap2.below); obtain ⟨k2, k3⟩ := HK.out _ hb2; have hs2 := hb2.size)
  rw [rounds_succ]
  go_wp2_with (at_builtin; refine wpList_appC 30 3 _ 1 8 Tryd.underlying30 infoInt rfl (by decide) (by decide) rfl _ _ rfl w2 w.heap.size v2 _ _ a2 n2 c2 fl2 hown2 hs2 (by omega) HL2.out (HC2.out _ hb2) H2.out rfl rfl ?_; intro v3 w3 hown3 hap3; have hb3 := hb2.trans (hap3.below))
  rw [rounds_succ]
  go_wp2_with fail
  go_ret
  exact ⟨⟨_, rfl, HE.out _ _ _ (by rw [List.nil_append] at hown3; exact hown3)⟩, hb3⟩
end Go.Proofs.YtcodmijphejfdaaDoor
