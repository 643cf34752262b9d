/- The walk of skolemlaw4.DimacsReads: it answers true. Conditions: the slice reads as bytes; the numbers are 64-bit ints; the errors lie as 'Sents8' says. -/
import Derived.Test.YteihaanpllmieaaDoorRefR
import Derived.Test.YteihaanpllmieaaDoorSameCl
import Derived.Test.YteihaanpllmieaaDoorOpenG
import Derived.Deep.DeepCutAuto
import Derived.Deep.CutBlock
import Derived.Deep.LoopGhost
namespace Go.Proofs.YteihaanpllmieaaDoor
open Go.RowKit

theorem read_nil : readL [] = (0, [], [], .text 0) := by
  have hw : wordsL true [] = [] := splitL_nil _ _ _ _
  have hh : headL [] = (0, 0, .text 0) := by unfold headL; rw [if_pos (fun h => absurd h.1 (by simp))]
  unfold readL
  rw [hw, hh]
  rfl

set_option maxHeartbeats 1000000 in
theorem first4_any (A : Nat → Addr) (w : World) (hS : Sents8 w A) : Calls Tryd.prog 6 #[] w fun e w' => e = .returned (.bool true) ∧ Below w.heap.size w w' := by
  have HR := Lib.hid (readD_any A (.slice none 0 0) [] w hS (RowG.nil _ _ _) Bts.nil (by simp))
  rw [read_nil] at HR
  have HP := Lib.hid (fun W => placed_any 101 0 W (by omega))
  have HY := Lib.hid (fun ev W (h : ErrAs W ev 101 true 0) => see_yes ev 101 true 0 W h)
  have HSS := Lib.hid (fun W (hW : Below w.heap.size w W) => (hS.keep hW).toSents)
  unfold ReadPost at HR
  clear hS
  go_enter Tryd.func6, Tryd.ntmps6
  go_wp2_with (first
    | (go_at_call 7; refine HR.out.mono ?_; rintro e w1 ⟨⟨cv, ov, rfl, hC, hO⟩, hb1⟩; obtain ⟨a9, c9, rfl, _⟩ := hC.rows; have hs1 := hb1.size; have hE := hO.err (HSS.out _ hb1))
    | (go_at_call 23; refine (HP.out _).mono ?_; rintro e w2 ⟨rfl, hb2⟩)
    | (go_at_call 14; refine (HY.out _ _ ?_).mono ?_; rotate_left; rintro e w3 ⟨rfl, hb3⟩))
  · have hq : Below w1.heap.size w1 w2 := ((Below.refl _ w1).alloc (Nat.le_refl _) _).trans (hb2.mono (by simp))
    go_ret
    exact ⟨rfl, hb1.trans ((hq.trans (hb3.mono hq.size)).mono hs1)⟩
  · exact hE.keep (((Below.refl _ w1).alloc (Nat.le_refl _) _).trans (hb2.mono (by simp)))

theorem cells2 (w W : World) (x y : Value) (T : TypeId) (h : Below (w.alloc (.cells #[x, y] T)).heap.size (w.alloc (.cells #[x, y] T)) W) : W.cell? ⟨w.heap.size, 0, none⟩ = some x ∧ W.cell? ⟨w.heap.size, 1, none⟩ = some y := by
  obtain ⟨hc, _⟩ := bcell h
  exact ⟨by rw [hc _ _ (by simp), World.cell?_alloc_at _ _ _ _ (by simp)]; rfl, by rw [hc _ _ (by simp), World.cell?_alloc_at _ _ _ _ (by simp)]; rfl⟩
theorem cells3 (w W : World) (x y z : Value) (T : TypeId) (h : Below (w.alloc (.cells #[x, y, z] T)).heap.size (w.alloc (.cells #[x, y, z] T)) W) : W.cell? ⟨w.heap.size, 0, none⟩ = some x ∧ W.cell? ⟨w.heap.size, 1, none⟩ = some y ∧ W.cell? ⟨w.heap.size, 2, none⟩ = some z := by
  obtain ⟨hc, _⟩ := bcell h
  exact ⟨by rw [hc _ _ (by simp), World.cell?_alloc_at _ _ _ _ (by simp)]; rfl, by rw [hc _ _ (by simp), World.cell?_alloc_at _ _ _ _ (by simp)]; rfl, by rw [hc _ _ (by simp), World.cell?_alloc_at _ _ _ _ (by simp)]; rfl⟩

set_option maxHeartbeats 8000000 in
theorem reads_in (A : Nat → Addr) (a : Option Addr) (c : Nat) (xs : List Int) (en vars many : Int) (w : World) (hS : Sents8 w A) (hv : RowGAt (Value.int .u8) 0 w a c xs) (hb : Bts xs) (hn : xs.length ≤ 400) (hv0 : -9223372036854775808 ≤ vars) (hv1 : vars ≤ 100) (hm1 : many ≤ 100) :
    Calls Tryd.prog 3 #[.slice a xs.length c, .int .i64 en, .int .i64 vars, .int .i64 many] w fun e w' => e = .returned (.bool true) ∧ Below w.heap.size w w' := by
  have hV : RowG (Value.int .u8) 0 w (.slice a xs.length c) xs := ⟨a, c, rfl, hv⟩
  obtain ⟨hok, hwn⟩ := words_ok hb (by omega : xs.length ≤ 4000)
  have HF := Lib.hid (first4_any A w hS)
  have HRD := Lib.hid (fun W (hW : Below w.heap.size w W) => readD_any A _ xs W (hS.keep hW) (hV.keep hW) hb (by omega))
  have HRR := Lib.hid (fun W (hW : Below w.heap.size w W) => refRead_any _ xs W (hV.keep hW) hb (by omega))
  have HSP := Lib.hid (fun W (hW : Below w.heap.size w W) => split_row _ xs true W (hV.keep hW) hb (by omega))
  have HSQ := Lib.hid (fun W (hW : Below w.heap.size w W) => refSplit_row _ xs true W (hV.keep hW) hb (by omega))
  have HHD := Lib.hid (fun u W (hW : Below w.heap.size w W) (h : WRow W u (wordsL true xs)) => headOf_any A u (wordsL true xs) en W (hS.keep hW) h hok hwn)
  have HRH := Lib.hid (fun u W (h : WRow W u (wordsL true xs)) => refHead_any u (wordsL true xs) en W h hok hwn)
  have HCL := Lib.hid (fun u W (hW : Below w.heap.size w W) (h : WRow W u (wordsL true xs)) => clausesOf_any A u (wordsL true xs) en vars many W (hS.keep hW) h.o hok hwn)
  have HRC := Lib.hid (fun u W (h : WRow W u (wordsL true xs)) => refCls_any u (wordsL true xs) en vars many W h.o hok hwn hv0 (by omega))
  have HSN := Lib.hid (fun W (hW : Below w.heap.size w W) => (hS.keep hW).toSents)
  have HY := Lib.hid (fun ev c p k W (h : ErrAs W ev c p k) => see_yes ev c p k W h)
  unfold ReadPost at HRD
  unfold RRPost at HRR
  unfold RHPost at HRH
  unfold RCPost at HRC
  unfold fltV at HRR HRH HRC
  unfold faultV at HY HRR HRH HRC
  clear hS hv hV hb hok
  generalize readL xs = R at *
  generalize wordsL true xs = ws at *
  obtain ⟨rv, rc, rws, rf⟩ := R
  generalize hhd : headL ws = H at *
  obtain ⟨hv, hm, hf⟩ := H
  generalize hcl : clausesL vars many 0 ws [] [] = C at *
  obtain ⟨cl, cf⟩ := C
  simp only at HRD HRR HHD HRH HCL HRC
  clear hhd hcl
  generalize xs.length = n at *
  have HO1 := Lib.hid (fun (W : World) B ov (hS : Sents W A) (h : OutV A B W rws n ov rf) => h.err hS)
  have HO2 := Lib.hid (fun (W : World) B ov (hS : Sents W A) (h : OutV A B W ws en ov hf) => h.err hS)
  have HO3 := Lib.hid (fun (W : World) B ov (hS : Sents W A) (h : OutV A B W ws en ov cf) => h.err hS)
  generalize rf.code = c1 at *
  generalize rf.placed = p1 at *
  generalize rf.pos rws n = k1 at *
  generalize hf.code = c2 at *
  generalize hf.placed = p2 at *
  generalize hf.pos ws en = k2 at *
  generalize cf.code = c3 at *
  generalize cf.placed = p3 at *
  generalize cf.pos ws en = k3 at *
  have hn4 : (n : Int) ≤ 400 := by omega
  clear hwn hv0
  cases hk : hf.isOk with
  | true =>
    obtain rfl := (isOk_iff _).1 hk
    clear hk
    go_enter Tryd.func3, Tryd.ntmps3
    go_wp2_with (first
      | (go_at_call 6; refine HF.out.mono ?_; rintro e w1 ⟨rfl, hb1⟩)
      | (go_at_call 7; refine (HRD.out _ hb1).mono ?_; rintro e w2 ⟨⟨cv, ov, rfl, hC, hO⟩, hb2⟩; have HW2 := hb1.trans (hb2.mono hb1.size); have hs2 := HW2.size; have HE1 := Lib.hid (HO1.out _ _ _ (HSN.out _ HW2) hO); obtain ⟨a9, c9, rfl, hR⟩ := hC.rows)
      | (go_at_call 8; refine (HRR.out _ (HW2.alloc hs2 _)).mono ?_; rintro e w3 ⟨⟨cv, rfl, hC2⟩, hb3⟩; have HW3 := (HW2.alloc hs2 _).trans (hb3.mono (by simp; omega)); have hs3 := HW3.size; obtain ⟨a8, c8, rfl, hR2⟩ := hC2.rows)
      | (go_at_call 9; refine (HSP.out _ ((HW3.alloc hs3 _).alloc (by simp; omega) _)).mono ?_; rintro e w4 ⟨⟨u1, rfl, hr1⟩, hb4⟩; have HW4 := ((HW3.alloc hs3 _).alloc (by simp; omega) _).trans (hb4.mono (by simp; omega)))
      | (go_at_call 10; refine (HSQ.out _ HW4).mono ?_; rintro e w5 ⟨⟨u2, rfl, hr2⟩, hb5⟩; have HW5 := HW4.trans (hb5.mono HW4.size))
      | (go_at_call 11; refine (HHD.out _ _ HW5 (hr1.keep hb5)).mono ?_; rintro e w6 ⟨⟨ov2, kk, rfl, hO2, hkk⟩, hb6⟩; have HW6 := HW5.trans (hb6.mono HW5.size); have HE2 := Lib.hid (HO2.out _ _ _ (HSN.out _ HW6) hO2); obtain rfl : kk = 4 := (by first | exact hkk rfl | exact hkk trivial | exact hkk); obtain rfl : ov2 = .nilIface := hO2)
      | (go_at_call 12; refine (HRH.out _ _ (hr2.keep hb6)).mono ?_; rintro e w7 ⟨rfl, hb7⟩; have HW7 := HW6.trans (hb7.mono HW6.size); have hs7 := HW7.size; have hb47 := hb4.trans ((hb5.trans ((hb6.trans (hb7.mono hb6.size)).mono hb5.size)).mono hb4.size); have hx3 : Below w3.heap.size w3 w7 := (((Below.refl _ w3).alloc (Nat.le_refl _) _).alloc (by simp) _).trans (hb47.mono (by simp; omega)); have hb37 := hb3.trans ((((Below.refl w3.heap.size w3).alloc (Nat.le_refl _) (.cells #[.int .i64 rv, .slice a8 rc.length c8] 26)).alloc (by simp) (.cells #[.int .i64 c1, .bool p1, .int .i64 k1] 32)).trans (hb47.mono (by simp; omega)) |>.mono hb3.size); have hx2 : Below w2.heap.size w2 w7 := ((Below.refl _ w2).alloc (Nat.le_refl _) _).trans (hb37.mono (by simp)); have hX := (Below.refl w7.heap.size w7).alloc (Nat.le_refl _) (.cells #[.int .i64 c2, .bool p2, .int .i64 k2] 32); have hXs := hX.size; obtain ⟨g1, g2⟩ := cells2 w2 _ _ _ _ (hb37.trans (hX.mono hb37.size)); obtain ⟨g3, g4⟩ := cells2 w3 _ _ _ _ (((Below.refl _ (w3.alloc (.cells #[.int .i64 rv, .slice a8 rc.length c8] 26))).alloc (Nat.le_refl _) _).trans ((hb47.trans (hX.mono hb47.size)).mono (by simp))); have HRA := Lib.hid (hR.keep (hx2.trans (hX.mono hx2.size))); have HRB := Lib.hid (hR2.keep (hx3.trans (hX.mono hx3.size))))
      | (go_at_call 13; refine (sameCNF_yes _ _ _ _ _ rc _ HRA.out HRB.out).mono ?_; rintro e w8 ⟨rfl, hb8⟩; have hx8 := hX.trans (hb8.mono hXs); have HW8 := HW7.trans (hx8.mono hs7); obtain ⟨g5, g6, g7⟩ := cells3 (w3.alloc (.cells #[.int .i64 rv, .slice a8 rc.length c8] 26)) w8 _ _ _ _ (hb47.trans (hx8.mono hb47.size)); simp at g5 g6 g7; have HE1w := Lib.hid (HE1.out.keep (hx2.trans (hx8.mono hx2.size))))
      | (go_at_call 14; refine (HY.out _ _ _ _ _ HE3w.out).mono ?_; rintro e w14 ⟨rfl, hb14⟩)
      | (go_at_call 14; refine (HY.out _ _ _ _ _ HE2w.out).mono ?_; rintro e w10 ⟨rfl, hb10⟩; have HW10 := HW9.trans (hb10.mono HW9.size); have hr1x := Lib.hid (hr1.keep (hx4.trans ((hx9.trans (hb10.mono hx9.size)).mono hx4.size))); have hr2x := Lib.hid (hr2.keep (hx5.trans ((hx9.trans (hb10.mono hx9.size)).mono hx5.size))))
      | (go_at_call 14; refine (HY.out _ _ _ _ _ HE1w.out).mono ?_; rintro e w9 ⟨rfl, hb9⟩; have hx9 := hx8.trans (hb9.mono hx8.size); have HW9 := HW8.trans (hb9.mono HW8.size); obtain ⟨g8, g9, g10⟩ := cells3 w7 w9 _ _ _ _ (hb8.trans (hb9.mono hb8.size)); have hx6 := hb7.trans (hx9.mono hb7.size); have HE2w := Lib.hid (HE2.out.keep hx6); have hx4 := hb5.trans ((hb6.trans (hb7.mono hb6.size)).mono hb5.size); have hx5 := hb6.trans (hb7.mono hb6.size))
      | (go_at_call 15; refine (HCL.out _ _ HW10 hr1x.out).mono ?_; rintro e w11 ⟨⟨cv3, ov3, rfl, hC3, hO3⟩, hb11⟩; have HW11 := HW10.trans (hb11.mono HW10.size); have HE3 := Lib.hid (HO3.out _ _ _ (HSN.out _ HW11) hO3); obtain ⟨a7, c7, rfl, hR3⟩ := hC3.rows)
      | (go_at_call 16; refine (HRC.out _ _ (hr2x.out.keep hb11)).mono ?_; rintro e w12 ⟨⟨cv4, rfl, hC4⟩, hb12⟩; have HW12 := HW11.trans (hb12.mono HW11.size); obtain ⟨a6, c6, rfl, hR4⟩ := hC4.rows; have hY := (Below.refl w12.heap.size w12).alloc (Nat.le_refl _) (.cells #[.int .i64 c3, .bool p3, .int .i64 k3] 32); have hYs := hY.size; have HRC1 := Lib.hid (hR3.keep (hb12.trans (hY.mono hb12.size))); have HRC2 := Lib.hid (hR4.keep hY))
      | (go_at_call 17; refine (sameClauses_yes _ _ _ _ cl _ HRC1.out HRC2.out).mono ?_; rintro e w13 ⟨rfl, hb13⟩; have hy13 := hY.trans (hb13.mono hYs); obtain ⟨g11, g12, g13⟩ := cells3 w12 w13 _ _ _ _ hb13; have HE3w := Lib.hid (HE3.out.keep (hb12.trans (hy13.mono hb12.size))); have HW13 := HW12.trans (hy13.mono HW12.size)))
    go_ret
    exact ⟨rfl, HW13.trans (hb14.mono HW13.size)⟩
  | false =>
    have hk' : hf ≠ .ok := fun h => by rw [h] at hk; cases hk
    have HKF := Lib.hid hk'
    clear hk hk'
    go_enter Tryd.func3, Tryd.ntmps3
    go_wp2_with (first
      | (go_at_call 6; refine HF.out.mono ?_; rintro e w1 ⟨rfl, hb1⟩)
      | (go_at_call 7; refine (HRD.out _ hb1).mono ?_; rintro e w2 ⟨⟨cv, ov, rfl, hC, hO⟩, hb2⟩; have HW2 := hb1.trans (hb2.mono hb1.size); have hs2 := HW2.size; have HE1 := Lib.hid (HO1.out _ _ _ (HSN.out _ HW2) hO); obtain ⟨a9, c9, rfl, hR⟩ := hC.rows)
      | (go_at_call 8; refine (HRR.out _ (HW2.alloc hs2 _)).mono ?_; rintro e w3 ⟨⟨cv, rfl, hC2⟩, hb3⟩; have HW3 := (HW2.alloc hs2 _).trans (hb3.mono (by simp; omega)); have hs3 := HW3.size; obtain ⟨a8, c8, rfl, hR2⟩ := hC2.rows)
      | (go_at_call 9; refine (HSP.out _ ((HW3.alloc hs3 _).alloc (by simp; omega) _)).mono ?_; rintro e w4 ⟨⟨u1, rfl, hr1⟩, hb4⟩; have HW4 := ((HW3.alloc hs3 _).alloc (by simp; omega) _).trans (hb4.mono (by simp; omega)))
      | (go_at_call 10; refine (HSQ.out _ HW4).mono ?_; rintro e w5 ⟨⟨u2, rfl, hr2⟩, hb5⟩; have HW5 := HW4.trans (hb5.mono HW4.size))
      | (go_at_call 11; refine (HHD.out _ _ HW5 (hr1.keep hb5)).mono ?_; rintro e w6 ⟨⟨ov2, kk, rfl, hO2, hkk⟩, hb6⟩; have HW6 := HW5.trans (hb6.mono HW5.size); have HE2 := Lib.hid (HO2.out _ _ _ (HSN.out _ HW6) hO2); obtain ⟨tt, uu, rfl⟩ := hO2.iface HKF.out)
      | (go_at_call 12; refine (HRH.out _ _ (hr2.keep hb6)).mono ?_; rintro e w7 ⟨rfl, hb7⟩; have HW7 := HW6.trans (hb7.mono HW6.size); have hs7 := HW7.size; have hb47 := hb4.trans ((hb5.trans ((hb6.trans (hb7.mono hb6.size)).mono hb5.size)).mono hb4.size); have hx3 : Below w3.heap.size w3 w7 := (((Below.refl _ w3).alloc (Nat.le_refl _) _).alloc (by simp) _).trans (hb47.mono (by simp; omega)); have hb37 := hb3.trans ((((Below.refl w3.heap.size w3).alloc (Nat.le_refl _) (.cells #[.int .i64 rv, .slice a8 rc.length c8] 26)).alloc (by simp) (.cells #[.int .i64 c1, .bool p1, .int .i64 k1] 32)).trans (hb47.mono (by simp; omega)) |>.mono hb3.size); have hx2 : Below w2.heap.size w2 w7 := ((Below.refl _ w2).alloc (Nat.le_refl _) _).trans (hb37.mono (by simp)); have hX := (Below.refl w7.heap.size w7).alloc (Nat.le_refl _) (.cells #[.int .i64 c2, .bool p2, .int .i64 k2] 32); have hXs := hX.size; obtain ⟨g1, g2⟩ := cells2 w2 _ _ _ _ (hb37.trans (hX.mono hb37.size)); obtain ⟨g3, g4⟩ := cells2 w3 _ _ _ _ (((Below.refl _ (w3.alloc (.cells #[.int .i64 rv, .slice a8 rc.length c8] 26))).alloc (Nat.le_refl _) _).trans ((hb47.trans (hX.mono hb47.size)).mono (by simp))); have HRA := Lib.hid (hR.keep (hx2.trans (hX.mono hx2.size))); have HRB := Lib.hid (hR2.keep (hx3.trans (hX.mono hx3.size))))
      | (go_at_call 13; refine (sameCNF_yes _ _ _ _ _ rc _ HRA.out HRB.out).mono ?_; rintro e w8 ⟨rfl, hb8⟩; have hx8 := hX.trans (hb8.mono hXs); have HW8 := HW7.trans (hx8.mono hs7); obtain ⟨g5, g6, g7⟩ := cells3 (w3.alloc (.cells #[.int .i64 rv, .slice a8 rc.length c8] 26)) w8 _ _ _ _ (hb47.trans (hx8.mono hb47.size)); simp at g5 g6 g7; have HE1w := Lib.hid (HE1.out.keep (hx2.trans (hx8.mono hx2.size))))
      | (go_at_call 14; refine (HY.out _ _ _ _ _ HE3w.out).mono ?_; rintro e w14 ⟨rfl, hb14⟩)
      | (go_at_call 14; refine (HY.out _ _ _ _ _ HE2w.out).mono ?_; rintro e w10 ⟨rfl, hb10⟩; have HW10 := HW9.trans (hb10.mono HW9.size); have hr1x := Lib.hid (hr1.keep (hx4.trans ((hx9.trans (hb10.mono hx9.size)).mono hx4.size))); have hr2x := Lib.hid (hr2.keep (hx5.trans ((hx9.trans (hb10.mono hx9.size)).mono hx5.size))))
      | (go_at_call 14; refine (HY.out _ _ _ _ _ HE1w.out).mono ?_; rintro e w9 ⟨rfl, hb9⟩; have hx9 := hx8.trans (hb9.mono hx8.size); have HW9 := HW8.trans (hb9.mono HW8.size); obtain ⟨g8, g9, g10⟩ := cells3 w7 w9 _ _ _ _ (hb8.trans (hb9.mono hb8.size)); have hx6 := hb7.trans (hx9.mono hb7.size); have HE2w := Lib.hid (HE2.out.keep hx6); have hx4 := hb5.trans ((hb6.trans (hb7.mono hb6.size)).mono hb5.size); have hx5 := hb6.trans (hb7.mono hb6.size))
      | (go_at_call 15; refine (HCL.out _ _ HW10 hr1x.out).mono ?_; rintro e w11 ⟨⟨cv3, ov3, rfl, hC3, hO3⟩, hb11⟩; have HW11 := HW10.trans (hb11.mono HW10.size); have HE3 := Lib.hid (HO3.out _ _ _ (HSN.out _ HW11) hO3); obtain ⟨a7, c7, rfl, hR3⟩ := hC3.rows)
      | (go_at_call 16; refine (HRC.out _ _ (hr2x.out.keep hb11)).mono ?_; rintro e w12 ⟨⟨cv4, rfl, hC4⟩, hb12⟩; have HW12 := HW11.trans (hb12.mono HW11.size); obtain ⟨a6, c6, rfl, hR4⟩ := hC4.rows; have hY := (Below.refl w12.heap.size w12).alloc (Nat.le_refl _) (.cells #[.int .i64 c3, .bool p3, .int .i64 k3] 32); have hYs := hY.size; have HRC1 := Lib.hid (hR3.keep (hb12.trans (hY.mono hb12.size))); have HRC2 := Lib.hid (hR4.keep hY))
      | (go_at_call 17; refine (sameClauses_yes _ _ _ _ cl _ HRC1.out HRC2.out).mono ?_; rintro e w13 ⟨rfl, hb13⟩; have hy13 := hY.trans (hb13.mono hYs); obtain ⟨g11, g12, g13⟩ := cells3 w12 w13 _ _ _ _ hb13; have HE3w := Lib.hid (HE3.out.keep (hb12.trans (hy13.mono hb12.size))); have HW13 := HW12.trans (hy13.mono HW12.size)))
    go_ret
    exact ⟨rfl, HW13.trans (hb14.mono HW13.size)⟩

set_option maxHeartbeats 2000000 in
theorem lawReads (A : Nat → Addr) (a : Option Addr) (c : Nat) (xs : List Int) (en vars many : Int) (w : World) (hS : Sents8 w A) (hv : RowGAt (Value.int .u8) 0 w a c xs) (hb : Bts xs) (hv0 : -9223372036854775808 ≤ vars) :
    Calls Tryd.prog 3 #[.slice a xs.length c, .int .i64 en, .int .i64 vars, .int .i64 many] w fun e w' => e = .returned (.bool true) ∧ Below w.heap.size w w' := by
  have HF := Lib.hid (first4_any A w hS)
  by_cases hn : 400 < xs.length
  · have hnb : decide ((400 : Int) < xs.length) = true := by simp; omega
    clear hS hv hb
    generalize xs.length = n at *
    go_enter Tryd.func3, Tryd.ntmps3
    go_wp2_with (go_at_call 6; refine HF.out.mono ?_; rintro e w1 ⟨rfl, hb1⟩)
    go_ret
    exact ⟨rfl, hb1⟩
  · have hnb : decide ((400 : Int) < xs.length) = false := by simp; omega
    by_cases hvv : 100 < vars
    · have hvb : decide ((100 : Int) < vars) = true := by simpa using hvv
      clear hS hv hb hn
      generalize xs.length = n at *
      go_enter Tryd.func3, Tryd.ntmps3
      go_wp2_with (go_at_call 6; refine HF.out.mono ?_; rintro e w1 ⟨rfl, hb1⟩)
      go_ret
      exact ⟨rfl, hb1⟩
    · by_cases hmm : 100 < many
      · have hvb : decide ((100 : Int) < vars) = false := by simpa using hvv
        have hmb : decide ((100 : Int) < many) = true := by simpa using hmm
        clear hS hv hb hn hvv
        generalize xs.length = n at *
        go_enter Tryd.func3, Tryd.ntmps3
        go_wp2_with (go_at_call 6; refine HF.out.mono ?_; rintro e w1 ⟨rfl, hb1⟩)
        go_ret
        exact ⟨rfl, hb1⟩
      · exact reads_in A a c xs en vars many w hS hv hb (by omega) hv0 (by omega) (by omega)
end Go.Proofs.YteihaanpllmieaaDoor
