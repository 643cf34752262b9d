/- The walk of skolemlaw5.QdimacsPlain: it answers true. Conditions: the slice reads as 64-bit ints; the errors and the table of powers of ten lie as the program lays them. · skolemlaw5.QdimacsPlain answers true, whatever its arguments. Conditions: the slice reads as 64-bit ints; the errors and the table of powers of ten lie as the program lays them. -/
import Derived.Test.YtfoohdknjacenaaGreatDoorPlainBase
import Derived.Test.YtfoohdknjacenaaGreatDoorBytesH
import Derived.Test.YtfoohdknjacenaaGreatDoorAppStr
import Derived.Deep.RegionHeld3
namespace Go.Proofs.YtfoohdknjacenaaGreatDoor
open Go.RowKit

theorem good_small5 {xss : List (List Int)} {m : Int} (hm : m ≤ 100) (h : ∀ c ∈ xss, ∀ l ∈ c, l ≠ 0 ∧ isF l m = true) : ∀ c ∈ xss, ∀ l ∈ c, -1000 < l ∧ l < 1000 := fun c hc l hl => by
  have := (h c hc l hl).2
  unfold isF at this
  simp at this
  omega
theorem len_le_sum5 {xss : List (List Int)} {c : List Int} (h : c ∈ xss) : c.length ≤ (xss.map List.length).sum := by
  induction xss with
  | nil => cases h
  | cons d xss ih =>
    simp only [List.map_cons, List.sum_cons]
    rcases List.mem_cons.1 h with rfl | h
    · omega
    · have := ih h; omega

set_option maxRecDepth 8000 in
set_option maxHeartbeats 8000000 in
theorem plain_in (A : Nat → Addr) (a : Option Addr) (c : Nat) (cs : List Int) (vn : Nat) (v : Int) (w : World) (hS : Sents8 w A) (ht : Tabs w) (hv : RowAt w a c cs) (hcs : ∀ y ∈ cs, -9223372036854775808 ≤ y ∧ y ≤ 9223372036854775807) (hn : cs.length ≤ 60) (hm1 : 1 ≤ vn) (hm2 : vn ≤ 20) (hv1 : -9223372036854775808 ≤ v) (hv2 : v ≤ 9223372036854775807) :
    Calls Tryz.prog 5 #[.slice a cs.length c, .int .i64 (vn : Int), .int .i64 v] w fun e w' => e = .returned (.bool true) ∧ Below w.heap.size w w' := by
  have HF := Lib.hid (first5_any A w hS ht)
  have HM : Hid (∀ W, Below w.heap.size w W → Calls Tryz.prog 17 #[.slice a cs.length c, .int .i64 (vn : Int)] W fun e w' => (∃ v xss, e = .returned (.agg #[.int .i64 (vn : Int), v]) ∧ CRow w' W.heap.size v xss ∧ (∀ c ∈ xss, ∀ l ∈ c, l ≠ 0 ∧ isF l (vn : Int) = true) ∧ (xss.map List.length).sum ≤ cs.length ∧ xss.length ≤ cs.length) ∧ Below W.heap.size W w') := fun W hW => makeCNF_any a c cs vn W (by omega) (by omega) (hv.keep hW) hcs (by omega)
  have HBD := Lib.hid (fun W (hW : Below w.heap.size w W) a' c' xss (hr : RowsAt W a' c' xss) (hg : ∀ c ∈ xss, ∀ l ∈ c, l ≠ 0 ∧ isF l (vn : Int) = true) (h1 : (xss.map List.length).sum ≤ cs.length) (h2 : xss.length ≤ cs.length) => refBytes_any vn a' c' xss W (by omega) hr (fun c hc l hl => by have := good_small5 (by omega) hg c hc l hl; omega) (by have := textL_len vn xss (by omega) (by omega) (good_small5 (by omega) hg); omega) (by omega) (ht.keep hW))
  have HCB := Lib.hid (fun W v (xs : List Int) (hr : RowG (Value.int .u8) 0 W v xs) (hl : xs.length ≤ 4000) => copyB_any v xs W hr (by omega))
  have HCK := Lib.hid (fun W (hW : Below w.heap.size w W) q d bs a' c' xss (hq : BRowsAt W q d bs) (hr : RowsAt W a' c' xss) (hg : ∀ c ∈ xss, ∀ l ∈ c, l ≠ 0 ∧ isF l (vn : Int) = true) (h1 : (xss.map List.length).sum ≤ cs.length) => checkFm_any A vn q d bs a' c' xss W (hS.keep hW) (by omega) (by omega) hq hr (fun c hc l hl => by have := good_small5 (by omega) hg c hc l hl; omega) (fun c hc => by have := len_le_sum5 hc; omega))
  have HP := Lib.hid (fun W => placed_any 104 1 W (by omega))
  have HY := Lib.hid (fun ev W (h : ErrAs W ev 104 true 1) => see_yes ev 104 true 1 W h)
  have HTL := Lib.hid (fun (xss : List (List Int)) (hg : ∀ c ∈ xss, ∀ l ∈ c, l ≠ 0 ∧ isF l (vn : Int) = true) (h1 : (xss.map List.length).sum ≤ cs.length) (h2 : xss.length ≤ cs.length) => show (textL vn xss).length ≤ 3000 by have := textL_len vn xss (by omega) (by omega) (good_small5 (by omega) hg); omega)
  have HRD1 := Lib.hid (fun W (hW : Below w.heap.size w W) v (xss : List (List Int)) (hr : RowG (Value.int .u8) 0 W v (textL vn xss)) (hg : ∀ c ∈ xss, ∀ l ∈ c, l ≠ 0 ∧ isF l (vn : Int) = true) (h1 : (xss.map List.length).sum ≤ cs.length) (h2 : xss.length ≤ cs.length) => show Calls Tryz.prog 7 #[v] W fun e w' => (∃ bv cv, e = .returned (.tuple #[.agg #[bv, .int .i64 (vn : Int), cv], .nilIface]) ∧ BRow w' W.heap.size bv [] ∧ CRow w' W.heap.size cv xss) ∧ Below W.heap.size W w' from by
    refine (readF_any A v _ W (hS.keep hW) hr (textL_bts _ _) (by have := HTL.out xss hg h1 h2; omega)).mono ?_
    obtain ⟨ws, h9⟩ := textF_read vn xss (by omega) (by omega) (by omega) hg
    rw [h9]
    rintro e w' ⟨⟨bv, cv, ov, rfl, hB, hC, hO⟩, hb⟩
    obtain rfl : ov = .nilIface := hO
    exact ⟨⟨bv, cv, rfl, hB, hC⟩, hb⟩)
  have HRD2 := Lib.hid (fun W (hW : Below w.heap.size w W) v (xss : List (List Int)) (hr : RowG (Value.int .u8) 0 W v (textL vn xss ++ [101, 32, 49, 32, 48, 10])) (hg : ∀ c ∈ xss, ∀ l ∈ c, l ≠ 0 ∧ isF l (vn : Int) = true) (h1 : (xss.map List.length).sum ≤ cs.length) (h2 : xss.length ≤ cs.length) => show Calls Tryz.prog 7 #[v] W fun e w' => (∃ ab nb cb iv ac nc cc ov, e = .returned (.tuple #[.agg #[.slice ab nb cb, .int .i64 iv, .slice ac nc cc], ov]) ∧ (xss.length = 0 → ov = .nilIface) ∧ (xss.length ≠ 0 → ∃ t u, ov = .iface t u)) ∧ Below W.heap.size W w' from by
    refine (readF_any A v _ W (hS.keep hW) hr ((textL_bts _ _).append (by intro x hx; simp at hx; omega)) (by have := HTL.out xss hg h1 h2; simp; omega)).mono ?_
    rintro e w' ⟨⟨bv, cv, ov, rfl, hB, hC, hO⟩, hb⟩
    obtain ⟨ab, cb, rfl, _⟩ := hB.rows
    obtain ⟨ac, cc, rfl, _⟩ := hC.rows
    refine ⟨⟨ab, _, cb, _, ac, _, cc, ov, rfl, fun h0 => ?_, fun h0 => ?_⟩, hb⟩
    · obtain rfl := List.eq_nil_of_length_eq_zero h0
      obtain ⟨ws, h9⟩ := behind_ok vn (by omega) (by omega)
      rw [h9] at hO
      exact hO
    · have h9 := behind_bad vn xss (fun e => h0 (by rw [e]; rfl)) (by omega) (by omega) (by omega) hg
      refine hO.iface (fun h => ?_)
      rw [h] at h9
      cases h9)
  have hnb : decide ((60 : Int) < cs.length) = false := by simp; omega
  have hvb1 : decide ((vn : Int) < 1) = false := by simp; omega
  have hvb2 : decide ((20 : Int) < vn) = false := by simp; omega
  have hvz : ((vn : Int) == 0) = false := beq_eq_false_iff_ne.2 (by omega)
  clear hS ht hv hcs
  generalize cs.length = n at *
  go_enter Tryz.func5, Tryz.ntmps5
  go_wp2_with (first
    | (go_at_call 6; refine HF.out.mono ?_; rintro e w1 ⟨rfl, hb1⟩)
    | (go_at_call 17; refine (HM.out _ hb1).mono ?_; rintro e w2 ⟨⟨cv, xss, rfl, hC, hg, hs1, hs2⟩, hb2⟩; have HW2 := hb1.trans (hb2.mono hb1.size); have hz2 := HW2.size; obtain ⟨a9, c9, rfl, hR⟩ := hC.rows; have HG := Lib.hid hg; clear hg; have hX := (Below.refl w2.heap.size w2).alloc (Nat.le_refl _) (.cells #[.int .i64 (vn : Int), .slice a9 xss.length c9] 27); have HR := Lib.hid (hR.keep hX); have hXs := hX.size)
    | (go_at_call 18; refine (HBD.out _ (HW2.trans (hX.mono hz2)) _ _ xss HR.out HG.out hs1 hs2).mono ?_; rintro e w3 ⟨⟨tv, rfl, ho3⟩, hb3⟩; have hx3 := hX.trans (hb3.mono hXs); have HW3 := HW2.trans (hx3.mono hz2); obtain ⟨p0, p1⟩ := cells2 w2 w3 _ _ _ hb3; have HRT := Lib.hid (own_rowG (d := 0) ho3); obtain ⟨at3, ct3, rfl, _, _⟩ := own_shape ho3; clear ho3))
  refine (HRD1.out _ HW3 _ xss HRT.out HG.out hs1 hs2).mono ?_
  rintro e w4 ⟨⟨bv4, cv4, rfl, hB4, hC4⟩, hb4⟩
  obtain ⟨a8, c8, rfl, hRB4⟩ := hB4.rows
  obtain ⟨a7, c7, rfl, hRC4⟩ := hC4.rows
  have hx4 := hb3.trans (hb4.mono hb3.size)
  have hy4 := hx4.alloc hx4.size (.cells #[.slice a8 0 c8, .int .i64 (vn : Int), .slice a7 xss.length c7] 29)
  have HX4 := Lib.hid ((Below.refl w4.heap.size w4).alloc (Nat.le_refl _) (.cells #[.slice a8 0 c8, .int .i64 (vn : Int), .slice a7 xss.length c7] 29))
  have HRC4 := Lib.hid hRC4
  clear hB4 hC4 hRC4 hRB4
  go_wp2_with (first
    | (go_at_call 19; refine (HCB.out _ _ _ (HRT.out.keep ((hb4.alloc hb4.size _))) (by have := HTL.out xss HG.out hs1 hs2; omega)).mono ?_; rintro e w5 ⟨⟨v5, rfl, ho5⟩, hb5⟩; obtain ⟨a5, k5, c5, rfl, HK5, HO5⟩ := bopen ho5; clear ho5)
    | (at_builtin; refine wpList_appStr rfl _ _ rfl w5 _ _ _ _ [101, 32, 49, 32, 48, 10] (by intro x hx; simp at hx; omega) HO5.out hb5.size (by rw [HK5.out]; have := HTL.out xss HG.out hs1 hs2; simp; omega) rfl rfl ?_; intro v6 w6 hown6 hb6; have hb56 := hb5.trans hb6; have HR6 := Lib.hid (own_rowG (d := 0) hown6); clear hown6))
  have hz56 := HX4.out.trans (hb56.mono HX4.out.size)
  have hx6 := hy4.trans (hb56.mono hy4.size)
  have HW4 := HW3.trans (hb4.mono HW3.size)
  have HW6 := HW4.trans (hz56.mono HW4.size)
  refine (HRD2.out _ HW6 _ xss HR6.out HG.out hs1 hs2).mono ?_
  rintro e w7 ⟨⟨ab, nb, cb, iv, ac, nc, cc, ov, rfl, ho1, ho2⟩, hb7⟩
  have hz7 := hz56.trans (hb7.mono hz56.size)
  have hz7' := hz7.alloc hz7.size (.cells #[.slice ab nb cb, .int .i64 iv, .slice ac nc cc] 29)
  have hx7 := hx4.trans (hz7'.mono hx4.size)
  obtain ⟨p0, p1⟩ := cells2 w2 _ _ _ _ hx7
  have HW7 := HW4.trans (hz7'.mono HW4.size)
  have HZ7 := Lib.hid hz7'
  have HZ6 := Lib.hid ((hb56.trans (hb7.mono hb56.size)).alloc (Nat.le_trans hb56.size hb7.size) (.cells #[.slice ab nb cb, .int .i64 iv, .slice ac nc cc] 29))
  cases hneg : decide (v < 0) with
  | false =>
    have hn0 : ¬ v < 0 := of_decide_eq_false hneg
    have u1 : 0 ≤ v % (vn : Int) := Int.emod_nonneg _ (by omega)
    have u2 : v % (vn : Int) < vn := Int.emod_lt_of_pos _ (by omega)
    have u3 : (vn : Int) ≤ 20 := by omega
    obtain ⟨W9, hW9, hb9, HB9, t0, t1, t2⟩ := plain_world w7 (.cells #[.slice ab nb cb, .int .i64 iv, .slice ac nc cc] 29) (v % (vn : Int) + 1) vn (.slice a9 xss.length c9)
    have hb9' := HZ7.out.trans (hb9.mono HZ7.out.size)
    obtain ⟨f0, f1, f2⟩ := cells3 w4 W9 _ _ _ _ (HZ6.out.trans (hb9.mono HZ6.out.size))
    have hx9 := hx7.trans (hb9.mono hx7.size)
    obtain ⟨q0, q1⟩ := cells2 w2 W9 _ _ _ hx9
    have HW9 := HW7.trans (hb9.mono HW7.size)
    have HCF := Lib.hid (plain_check (m := vn) (u := v % (vn : Int) + 1) (by omega) (by omega) (by omega) HG.out (by omega) (by omega))
    cases hlen : decide (0 < xss.length) with
    | false =>
      have hlen3 := of_decide_eq_false hlen
      have hlen2 : decide ((0 : Int) < xss.length) = false := decide_eq_false (by omega)
      obtain rfl := ho1 (by omega)
      clear hlen3
      go_wp2_with fail
      rw [← hW9]
      clear hW9
      have CK := Lib.hid (show ∀ W, Below W9.heap.size W9 W → W.cell? ⟨w2.heap.size, 0, none⟩ = some (.int .i64 (vn : Int)) ∧ W.cell? ⟨w2.heap.size, 1, none⟩ = some (.slice a9 xss.length c9) ∧ W.cell? ⟨w4.heap.size, 0, none⟩ = some (.slice a8 0 c8) ∧ W.cell? ⟨w4.heap.size, 1, none⟩ = some (.int .i64 (vn : Int)) ∧ W.cell? ⟨w4.heap.size, 2, none⟩ = some (.slice a7 xss.length c7) ∧ W.cell? ⟨w7.heap.size + 1 + 1 + 1 + 1, 0, none⟩ = some (.slice (some ⟨w7.heap.size + 1 + 1 + 1, 0, none⟩) 2 2) ∧ W.cell? ⟨w7.heap.size + 1 + 1 + 1 + 1, 1, none⟩ = some (.int .i64 (vn : Int)) ∧ W.cell? ⟨w7.heap.size + 1 + 1 + 1 + 1, 2, none⟩ = some (.slice a9 xss.length c9) from fun W hW =>
        ⟨(hW.cell (p := ⟨_, 0, none⟩) (World.block_lt_of_cell? W9 _ q0)).trans q0, (hW.cell (p := ⟨_, 1, none⟩) (World.block_lt_of_cell? W9 _ q1)).trans q1, (hW.cell (p := ⟨_, 0, none⟩) (World.block_lt_of_cell? W9 _ f0)).trans f0, (hW.cell (p := ⟨_, 1, none⟩) (World.block_lt_of_cell? W9 _ f1)).trans f1, (hW.cell (p := ⟨_, 2, none⟩) (World.block_lt_of_cell? W9 _ f2)).trans f2, (hW.cell (p := ⟨_, 0, none⟩) (World.block_lt_of_cell? W9 _ t0)).trans t0, (hW.cell (p := ⟨_, 1, none⟩) (World.block_lt_of_cell? W9 _ t1)).trans t1, (hW.cell (p := ⟨_, 2, none⟩) (World.block_lt_of_cell? W9 _ t2)).trans t2⟩)
      have Z1 := Lib.hid (fun W (hW : Below W9.heap.size W9 W) => sameCNF_yes (vn : Int) a7 a9 c7 c9 xss W ((HRC4.out.keep hb9').keep hW) ((HR.out.keep hx9).keep hW))
      have Z2 := Lib.hid (fun W (hW : Below W9.heap.size W9 W) => HCK.out W (HW9.trans (hW.mono HW9.size)) (some ⟨w7.heap.size + 1 + 1 + 1, 0, none⟩) 2 [(true, [v % (vn : Int) + 1]), (false, [v % (vn : Int) + 1])] a9 c9 xss (HB9.keep hW) ((HR.out.keep hx9).keep hW) HG.out hs1)
      unfold ChkPost at Z2
      have HWX := Lib.hid HW9
      clear q0 q1 f0 f1 f2 t0 t1 t2 hb9 hb9' hx9 HW9 HB9 HRC4 HCK HR HRD1 HRD2 HM HF HBD HCB HTL HR6 HRT HX4 HZ7 HZ6 hx7 hx6 hx4 hz7 hz7' hz56 hb7 hb6 hb5 hb56 hb4 hb3 hb2 hb1 hX hx3 hy4 HW7 HW6 HW4 HW3 HW2 hXs hz2 p0 p1
      go_wp2_with fail
      go_region_held3 (fun W => W.cell? ⟨w2.heap.size, 0, none⟩ = some (.int .i64 (vn : Int)) ∧ W.cell? ⟨w2.heap.size, 1, none⟩ = some (.slice a9 xss.length c9) ∧ W.cell? ⟨w4.heap.size, 0, none⟩ = some (.slice a8 0 c8) ∧ W.cell? ⟨w4.heap.size, 1, none⟩ = some (.int .i64 (vn : Int)) ∧ W.cell? ⟨w4.heap.size, 2, none⟩ = some (.slice a7 xss.length c7) ∧ W.cell? ⟨w7.heap.size + 1 + 1 + 1 + 1, 0, none⟩ = some (.slice (some ⟨w7.heap.size + 1 + 1 + 1, 0, none⟩) 2 2) ∧ W.cell? ⟨w7.heap.size + 1 + 1 + 1 + 1, 1, none⟩ = some (.int .i64 (vn : Int)) ∧ W.cell? ⟨w7.heap.size + 1 + 1 + 1 + 1, 2, none⟩ = some (.slice a9 xss.length c9)) (first | exact CK.out _ (Below.refl _ _).drew | exact CK.out _ hb10 | exact CK.out _ hb11 | exact CK.out _ hb12 | exact CK.out _ hb13) (first
        | (go_at_call 20; refine (Z1.out _ (Below.refl _ _).drew).mono ?_; rintro e w10 ⟨rfl, hb10'⟩; have hb10 : Below W9.heap.size W9 w10 := ((Below.refl _ _).drew).trans (hb10'.mono (by simp)); clear hb10')
        | (go_at_call 12; refine (Z2.out _ hb10).mono ?_; rintro e w11 ⟨ev, c11, p11, k11, rfl, hcf, he, _, hb11'⟩; obtain ⟨rfl, rfl, rfl⟩ := checkFF_same HCF.out hcf; have hb11 : Below W9.heap.size W9 w11 := hb10.trans (hb11'.mono hb10.size); have HE := Lib.hid he; clear he hcf hb11')
        | (go_at_call 21; refine (HP.out _).mono ?_; rintro e w12 ⟨rfl, hb12'⟩; have hb12 : Below W9.heap.size W9 w12 := hb11.trans (hb12'.mono hb11.size); have HE2 := Lib.hid (HE.out.keep hb12'); clear hb12')
        | (go_at_call 10; refine (HY.out _ _ HE2.out).mono ?_; rintro e w13 ⟨rfl, hb13'⟩; have hb13 : Below W9.heap.size W9 w13 := hb12.trans (hb13'.mono hb12.size); clear hb13'))
      all_goals
        go_wp2_with fail
        go_ret
        exact ⟨rfl, HWX.out.trans (hb13.mono HWX.out.size)⟩
    | true =>
      have hlen3 := of_decide_eq_true hlen
      have hlen2 : decide ((0 : Int) < xss.length) = true := decide_eq_true (by omega)
      obtain ⟨ti, ui, rfl⟩ := ho2 (by omega)
      clear hlen3
      go_wp2_with fail
      rw [← hW9]
      clear hW9
      have CK := Lib.hid (show ∀ W, Below W9.heap.size W9 W → W.cell? ⟨w2.heap.size, 0, none⟩ = some (.int .i64 (vn : Int)) ∧ W.cell? ⟨w2.heap.size, 1, none⟩ = some (.slice a9 xss.length c9) ∧ W.cell? ⟨w4.heap.size, 0, none⟩ = some (.slice a8 0 c8) ∧ W.cell? ⟨w4.heap.size, 1, none⟩ = some (.int .i64 (vn : Int)) ∧ W.cell? ⟨w4.heap.size, 2, none⟩ = some (.slice a7 xss.length c7) ∧ W.cell? ⟨w7.heap.size + 1 + 1 + 1 + 1, 0, none⟩ = some (.slice (some ⟨w7.heap.size + 1 + 1 + 1, 0, none⟩) 2 2) ∧ W.cell? ⟨w7.heap.size + 1 + 1 + 1 + 1, 1, none⟩ = some (.int .i64 (vn : Int)) ∧ W.cell? ⟨w7.heap.size + 1 + 1 + 1 + 1, 2, none⟩ = some (.slice a9 xss.length c9) from fun W hW =>
        ⟨(hW.cell (p := ⟨_, 0, none⟩) (World.block_lt_of_cell? W9 _ q0)).trans q0, (hW.cell (p := ⟨_, 1, none⟩) (World.block_lt_of_cell? W9 _ q1)).trans q1, (hW.cell (p := ⟨_, 0, none⟩) (World.block_lt_of_cell? W9 _ f0)).trans f0, (hW.cell (p := ⟨_, 1, none⟩) (World.block_lt_of_cell? W9 _ f1)).trans f1, (hW.cell (p := ⟨_, 2, none⟩) (World.block_lt_of_cell? W9 _ f2)).trans f2, (hW.cell (p := ⟨_, 0, none⟩) (World.block_lt_of_cell? W9 _ t0)).trans t0, (hW.cell (p := ⟨_, 1, none⟩) (World.block_lt_of_cell? W9 _ t1)).trans t1, (hW.cell (p := ⟨_, 2, none⟩) (World.block_lt_of_cell? W9 _ t2)).trans t2⟩)
      have Z1 := Lib.hid (fun W (hW : Below W9.heap.size W9 W) => sameCNF_yes (vn : Int) a7 a9 c7 c9 xss W ((HRC4.out.keep hb9').keep hW) ((HR.out.keep hx9).keep hW))
      have Z2 := Lib.hid (fun W (hW : Below W9.heap.size W9 W) => HCK.out W (HW9.trans (hW.mono HW9.size)) (some ⟨w7.heap.size + 1 + 1 + 1, 0, none⟩) 2 [(true, [v % (vn : Int) + 1]), (false, [v % (vn : Int) + 1])] a9 c9 xss (HB9.keep hW) ((HR.out.keep hx9).keep hW) HG.out hs1)
      unfold ChkPost at Z2
      have HWX := Lib.hid HW9
      clear q0 q1 f0 f1 f2 t0 t1 t2 hb9 hb9' hx9 HW9 HB9 HRC4 HCK HR HRD1 HRD2 HM HF HBD HCB HTL HR6 HRT HX4 HZ7 HZ6 hx7 hx6 hx4 hz7 hz7' hz56 hb7 hb6 hb5 hb56 hb4 hb3 hb2 hb1 hX hx3 hy4 HW7 HW6 HW4 HW3 HW2 hXs hz2 p0 p1
      go_wp2_with fail
      go_region_held3 (fun W => W.cell? ⟨w2.heap.size, 0, none⟩ = some (.int .i64 (vn : Int)) ∧ W.cell? ⟨w2.heap.size, 1, none⟩ = some (.slice a9 xss.length c9) ∧ W.cell? ⟨w4.heap.size, 0, none⟩ = some (.slice a8 0 c8) ∧ W.cell? ⟨w4.heap.size, 1, none⟩ = some (.int .i64 (vn : Int)) ∧ W.cell? ⟨w4.heap.size, 2, none⟩ = some (.slice a7 xss.length c7) ∧ W.cell? ⟨w7.heap.size + 1 + 1 + 1 + 1, 0, none⟩ = some (.slice (some ⟨w7.heap.size + 1 + 1 + 1, 0, none⟩) 2 2) ∧ W.cell? ⟨w7.heap.size + 1 + 1 + 1 + 1, 1, none⟩ = some (.int .i64 (vn : Int)) ∧ W.cell? ⟨w7.heap.size + 1 + 1 + 1 + 1, 2, none⟩ = some (.slice a9 xss.length c9)) (first | exact CK.out _ (Below.refl _ _).drew | exact CK.out _ hb10 | exact CK.out _ hb11 | exact CK.out _ hb12 | exact CK.out _ hb13) (first
        | (go_at_call 20; refine (Z1.out _ (Below.refl _ _).drew).mono ?_; rintro e w10 ⟨rfl, hb10'⟩; have hb10 : Below W9.heap.size W9 w10 := ((Below.refl _ _).drew).trans (hb10'.mono (by simp)); clear hb10')
        | (go_at_call 12; refine (Z2.out _ hb10).mono ?_; rintro e w11 ⟨ev, c11, p11, k11, rfl, hcf, he, _, hb11'⟩; obtain ⟨rfl, rfl, rfl⟩ := checkFF_same HCF.out hcf; have hb11 : Below W9.heap.size W9 w11 := hb10.trans (hb11'.mono hb10.size); have HE := Lib.hid he; clear he hcf hb11')
        | (go_at_call 21; refine (HP.out _).mono ?_; rintro e w12 ⟨rfl, hb12'⟩; have hb12 : Below W9.heap.size W9 w12 := hb11.trans (hb12'.mono hb11.size); have HE2 := Lib.hid (HE.out.keep hb12'); clear hb12')
        | (go_at_call 10; refine (HY.out _ _ HE2.out).mono ?_; rintro e w13 ⟨rfl, hb13'⟩; have hb13 : Below W9.heap.size W9 w13 := hb12.trans (hb13'.mono hb12.size); clear hb13'))
      all_goals
        go_wp2_with fail
        go_ret
        exact ⟨rfl, HWX.out.trans (hb13.mono HWX.out.size)⟩
  | true =>
    have hn0 : v < 0 := of_decide_eq_true hneg
    have u0 := Int.neg_tmod (v + 1) vn
    have u1 : 0 ≤ (-(v + 1)).tmod vn := Int.tmod_nonneg _ (by omega)
    have u2 : (-(v + 1)).tmod vn < vn := Int.tmod_lt_of_pos _ (by omega)
    rw [u0] at u1 u2
    clear u0
    have u3 : (vn : Int) ≤ 20 := by omega
    obtain ⟨W9, hW9, hb9, HB9, t0, t1, t2⟩ := plain_world w7 (.cells #[.slice ab nb cb, .int .i64 iv, .slice ac nc cc] 29) (-(v + 1).tmod (vn : Int) + 1) vn (.slice a9 xss.length c9)
    have hb9' := HZ7.out.trans (hb9.mono HZ7.out.size)
    obtain ⟨f0, f1, f2⟩ := cells3 w4 W9 _ _ _ _ (HZ6.out.trans (hb9.mono HZ6.out.size))
    have hx9 := hx7.trans (hb9.mono hx7.size)
    obtain ⟨q0, q1⟩ := cells2 w2 W9 _ _ _ hx9
    have HW9 := HW7.trans (hb9.mono HW7.size)
    have HCF := Lib.hid (plain_check (m := vn) (u := -(v + 1).tmod (vn : Int) + 1) (by omega) (by omega) (by omega) HG.out (by omega) (by omega))
    cases hlen : decide (0 < xss.length) with
    | false =>
      have hlen3 := of_decide_eq_false hlen
      have hlen2 : decide ((0 : Int) < xss.length) = false := decide_eq_false (by omega)
      obtain rfl := ho1 (by omega)
      clear hlen3
      go_wp2_with fail
      rw [← hW9]
      clear hW9
      have CK := Lib.hid (show ∀ W, Below W9.heap.size W9 W → W.cell? ⟨w2.heap.size, 0, none⟩ = some (.int .i64 (vn : Int)) ∧ W.cell? ⟨w2.heap.size, 1, none⟩ = some (.slice a9 xss.length c9) ∧ W.cell? ⟨w4.heap.size, 0, none⟩ = some (.slice a8 0 c8) ∧ W.cell? ⟨w4.heap.size, 1, none⟩ = some (.int .i64 (vn : Int)) ∧ W.cell? ⟨w4.heap.size, 2, none⟩ = some (.slice a7 xss.length c7) ∧ W.cell? ⟨w7.heap.size + 1 + 1 + 1 + 1, 0, none⟩ = some (.slice (some ⟨w7.heap.size + 1 + 1 + 1, 0, none⟩) 2 2) ∧ W.cell? ⟨w7.heap.size + 1 + 1 + 1 + 1, 1, none⟩ = some (.int .i64 (vn : Int)) ∧ W.cell? ⟨w7.heap.size + 1 + 1 + 1 + 1, 2, none⟩ = some (.slice a9 xss.length c9) from fun W hW =>
        ⟨(hW.cell (p := ⟨_, 0, none⟩) (World.block_lt_of_cell? W9 _ q0)).trans q0, (hW.cell (p := ⟨_, 1, none⟩) (World.block_lt_of_cell? W9 _ q1)).trans q1, (hW.cell (p := ⟨_, 0, none⟩) (World.block_lt_of_cell? W9 _ f0)).trans f0, (hW.cell (p := ⟨_, 1, none⟩) (World.block_lt_of_cell? W9 _ f1)).trans f1, (hW.cell (p := ⟨_, 2, none⟩) (World.block_lt_of_cell? W9 _ f2)).trans f2, (hW.cell (p := ⟨_, 0, none⟩) (World.block_lt_of_cell? W9 _ t0)).trans t0, (hW.cell (p := ⟨_, 1, none⟩) (World.block_lt_of_cell? W9 _ t1)).trans t1, (hW.cell (p := ⟨_, 2, none⟩) (World.block_lt_of_cell? W9 _ t2)).trans t2⟩)
      have Z1 := Lib.hid (fun W (hW : Below W9.heap.size W9 W) => sameCNF_yes (vn : Int) a7 a9 c7 c9 xss W ((HRC4.out.keep hb9').keep hW) ((HR.out.keep hx9).keep hW))
      have Z2 := Lib.hid (fun W (hW : Below W9.heap.size W9 W) => HCK.out W (HW9.trans (hW.mono HW9.size)) (some ⟨w7.heap.size + 1 + 1 + 1, 0, none⟩) 2 [(true, [-(v + 1).tmod (vn : Int) + 1]), (false, [-(v + 1).tmod (vn : Int) + 1])] a9 c9 xss (HB9.keep hW) ((HR.out.keep hx9).keep hW) HG.out hs1)
      unfold ChkPost at Z2
      have HWX := Lib.hid HW9
      clear q0 q1 f0 f1 f2 t0 t1 t2 hb9 hb9' hx9 HW9 HB9 HRC4 HCK HR HRD1 HRD2 HM HF HBD HCB HTL HR6 HRT HX4 HZ7 HZ6 hx7 hx6 hx4 hz7 hz7' hz56 hb7 hb6 hb5 hb56 hb4 hb3 hb2 hb1 hX hx3 hy4 HW7 HW6 HW4 HW3 HW2 hXs hz2 p0 p1
      go_wp2_with fail
      go_region_held3 (fun W => W.cell? ⟨w2.heap.size, 0, none⟩ = some (.int .i64 (vn : Int)) ∧ W.cell? ⟨w2.heap.size, 1, none⟩ = some (.slice a9 xss.length c9) ∧ W.cell? ⟨w4.heap.size, 0, none⟩ = some (.slice a8 0 c8) ∧ W.cell? ⟨w4.heap.size, 1, none⟩ = some (.int .i64 (vn : Int)) ∧ W.cell? ⟨w4.heap.size, 2, none⟩ = some (.slice a7 xss.length c7) ∧ W.cell? ⟨w7.heap.size + 1 + 1 + 1 + 1, 0, none⟩ = some (.slice (some ⟨w7.heap.size + 1 + 1 + 1, 0, none⟩) 2 2) ∧ W.cell? ⟨w7.heap.size + 1 + 1 + 1 + 1, 1, none⟩ = some (.int .i64 (vn : Int)) ∧ W.cell? ⟨w7.heap.size + 1 + 1 + 1 + 1, 2, none⟩ = some (.slice a9 xss.length c9)) (first | exact CK.out _ (Below.refl _ _).drew | exact CK.out _ hb10 | exact CK.out _ hb11 | exact CK.out _ hb12 | exact CK.out _ hb13) (first
        | (go_at_call 20; refine (Z1.out _ (Below.refl _ _).drew).mono ?_; rintro e w10 ⟨rfl, hb10'⟩; have hb10 : Below W9.heap.size W9 w10 := ((Below.refl _ _).drew).trans (hb10'.mono (by simp)); clear hb10')
        | (go_at_call 12; refine (Z2.out _ hb10).mono ?_; rintro e w11 ⟨ev, c11, p11, k11, rfl, hcf, he, _, hb11'⟩; obtain ⟨rfl, rfl, rfl⟩ := checkFF_same HCF.out hcf; have hb11 : Below W9.heap.size W9 w11 := hb10.trans (hb11'.mono hb10.size); have HE := Lib.hid he; clear he hcf hb11')
        | (go_at_call 21; refine (HP.out _).mono ?_; rintro e w12 ⟨rfl, hb12'⟩; have hb12 : Below W9.heap.size W9 w12 := hb11.trans (hb12'.mono hb11.size); have HE2 := Lib.hid (HE.out.keep hb12'); clear hb12')
        | (go_at_call 10; refine (HY.out _ _ HE2.out).mono ?_; rintro e w13 ⟨rfl, hb13'⟩; have hb13 : Below W9.heap.size W9 w13 := hb12.trans (hb13'.mono hb12.size); clear hb13'))
      all_goals
        go_wp2_with fail
        go_ret
        exact ⟨rfl, HWX.out.trans (hb13.mono HWX.out.size)⟩
    | true =>
      have hlen3 := of_decide_eq_true hlen
      have hlen2 : decide ((0 : Int) < xss.length) = true := decide_eq_true (by omega)
      obtain ⟨ti, ui, rfl⟩ := ho2 (by omega)
      clear hlen3
      go_wp2_with fail
      rw [← hW9]
      clear hW9
      have CK := Lib.hid (show ∀ W, Below W9.heap.size W9 W → W.cell? ⟨w2.heap.size, 0, none⟩ = some (.int .i64 (vn : Int)) ∧ W.cell? ⟨w2.heap.size, 1, none⟩ = some (.slice a9 xss.length c9) ∧ W.cell? ⟨w4.heap.size, 0, none⟩ = some (.slice a8 0 c8) ∧ W.cell? ⟨w4.heap.size, 1, none⟩ = some (.int .i64 (vn : Int)) ∧ W.cell? ⟨w4.heap.size, 2, none⟩ = some (.slice a7 xss.length c7) ∧ W.cell? ⟨w7.heap.size + 1 + 1 + 1 + 1, 0, none⟩ = some (.slice (some ⟨w7.heap.size + 1 + 1 + 1, 0, none⟩) 2 2) ∧ W.cell? ⟨w7.heap.size + 1 + 1 + 1 + 1, 1, none⟩ = some (.int .i64 (vn : Int)) ∧ W.cell? ⟨w7.heap.size + 1 + 1 + 1 + 1, 2, none⟩ = some (.slice a9 xss.length c9) from fun W hW =>
        ⟨(hW.cell (p := ⟨_, 0, none⟩) (World.block_lt_of_cell? W9 _ q0)).trans q0, (hW.cell (p := ⟨_, 1, none⟩) (World.block_lt_of_cell? W9 _ q1)).trans q1, (hW.cell (p := ⟨_, 0, none⟩) (World.block_lt_of_cell? W9 _ f0)).trans f0, (hW.cell (p := ⟨_, 1, none⟩) (World.block_lt_of_cell? W9 _ f1)).trans f1, (hW.cell (p := ⟨_, 2, none⟩) (World.block_lt_of_cell? W9 _ f2)).trans f2, (hW.cell (p := ⟨_, 0, none⟩) (World.block_lt_of_cell? W9 _ t0)).trans t0, (hW.cell (p := ⟨_, 1, none⟩) (World.block_lt_of_cell? W9 _ t1)).trans t1, (hW.cell (p := ⟨_, 2, none⟩) (World.block_lt_of_cell? W9 _ t2)).trans t2⟩)
      have Z1 := Lib.hid (fun W (hW : Below W9.heap.size W9 W) => sameCNF_yes (vn : Int) a7 a9 c7 c9 xss W ((HRC4.out.keep hb9').keep hW) ((HR.out.keep hx9).keep hW))
      have Z2 := Lib.hid (fun W (hW : Below W9.heap.size W9 W) => HCK.out W (HW9.trans (hW.mono HW9.size)) (some ⟨w7.heap.size + 1 + 1 + 1, 0, none⟩) 2 [(true, [-(v + 1).tmod (vn : Int) + 1]), (false, [-(v + 1).tmod (vn : Int) + 1])] a9 c9 xss (HB9.keep hW) ((HR.out.keep hx9).keep hW) HG.out hs1)
      unfold ChkPost at Z2
      have HWX := Lib.hid HW9
      clear q0 q1 f0 f1 f2 t0 t1 t2 hb9 hb9' hx9 HW9 HB9 HRC4 HCK HR HRD1 HRD2 HM HF HBD HCB HTL HR6 HRT HX4 HZ7 HZ6 hx7 hx6 hx4 hz7 hz7' hz56 hb7 hb6 hb5 hb56 hb4 hb3 hb2 hb1 hX hx3 hy4 HW7 HW6 HW4 HW3 HW2 hXs hz2 p0 p1
      go_wp2_with fail
      go_region_held3 (fun W => W.cell? ⟨w2.heap.size, 0, none⟩ = some (.int .i64 (vn : Int)) ∧ W.cell? ⟨w2.heap.size, 1, none⟩ = some (.slice a9 xss.length c9) ∧ W.cell? ⟨w4.heap.size, 0, none⟩ = some (.slice a8 0 c8) ∧ W.cell? ⟨w4.heap.size, 1, none⟩ = some (.int .i64 (vn : Int)) ∧ W.cell? ⟨w4.heap.size, 2, none⟩ = some (.slice a7 xss.length c7) ∧ W.cell? ⟨w7.heap.size + 1 + 1 + 1 + 1, 0, none⟩ = some (.slice (some ⟨w7.heap.size + 1 + 1 + 1, 0, none⟩) 2 2) ∧ W.cell? ⟨w7.heap.size + 1 + 1 + 1 + 1, 1, none⟩ = some (.int .i64 (vn : Int)) ∧ W.cell? ⟨w7.heap.size + 1 + 1 + 1 + 1, 2, none⟩ = some (.slice a9 xss.length c9)) (first | exact CK.out _ (Below.refl _ _).drew | exact CK.out _ hb10 | exact CK.out _ hb11 | exact CK.out _ hb12 | exact CK.out _ hb13) (first
        | (go_at_call 20; refine (Z1.out _ (Below.refl _ _).drew).mono ?_; rintro e w10 ⟨rfl, hb10'⟩; have hb10 : Below W9.heap.size W9 w10 := ((Below.refl _ _).drew).trans (hb10'.mono (by simp)); clear hb10')
        | (go_at_call 12; refine (Z2.out _ hb10).mono ?_; rintro e w11 ⟨ev, c11, p11, k11, rfl, hcf, he, _, hb11'⟩; obtain ⟨rfl, rfl, rfl⟩ := checkFF_same HCF.out hcf; have hb11 : Below W9.heap.size W9 w11 := hb10.trans (hb11'.mono hb10.size); have HE := Lib.hid he; clear he hcf hb11')
        | (go_at_call 21; refine (HP.out _).mono ?_; rintro e w12 ⟨rfl, hb12'⟩; have hb12 : Below W9.heap.size W9 w12 := hb11.trans (hb12'.mono hb11.size); have HE2 := Lib.hid (HE.out.keep hb12'); clear hb12')
        | (go_at_call 10; refine (HY.out _ _ HE2.out).mono ?_; rintro e w13 ⟨rfl, hb13'⟩; have hb13 : Below W9.heap.size W9 w13 := hb12.trans (hb13'.mono hb12.size); clear hb13'))
      all_goals
        go_wp2_with fail
        go_ret
        exact ⟨rfl, HWX.out.trans (hb13.mono HWX.out.size)⟩
end Go.Proofs.YtfoohdknjacenaaGreatDoor

namespace Go.Proofs.YtfoohdknjacenaaGreatDoor
open Go.RowKit

set_option maxHeartbeats 2000000 in
theorem lawPlain (A : Nat → Addr) (a : Option Addr) (c : Nat) (cs : List Int) (m v : Int) (w : World) (hS : Sents8 w A) (ht : Tabs w) (hv : RowAt w a c cs) (hcs : ∀ y ∈ cs, -9223372036854775808 ≤ y ∧ y ≤ 9223372036854775807) (hv1 : -9223372036854775808 ≤ v) (hv2 : v ≤ 9223372036854775807) :
    Calls Tryz.prog 5 #[.slice a cs.length c, .int .i64 m, .int .i64 v] w fun e w' => e = .returned (.bool true) ∧ Below w.heap.size w w' := by
  have HF := Lib.hid (first5_any A w hS ht)
  cases hnb : decide ((60 : Int) < cs.length) with
  | true =>
    clear hS ht hv hcs
    generalize cs.length = n at *
    go_enter Tryz.func5, Tryz.ntmps5
    go_wp2_with (go_at_call 6; refine HF.out.mono ?_; rintro e w1 ⟨rfl, hb1⟩)
    (try go_ret)
    exact ⟨rfl, hb1⟩
  | false =>
    cases h1 : decide (m < 1) with
    | true =>
      clear hS ht hv hcs
      generalize cs.length = n at *
      go_enter Tryz.func5, Tryz.ntmps5
      go_wp2_with (go_at_call 6; refine HF.out.mono ?_; rintro e w1 ⟨rfl, hb1⟩)
      (try go_ret)
      exact ⟨rfl, hb1⟩
    | false =>
      cases h2 : decide (20 < m) with
      | true =>
        clear hS ht hv hcs
        generalize cs.length = n at *
        go_enter Tryz.func5, Tryz.ntmps5
        go_wp2_with (go_at_call 6; refine HF.out.mono ?_; rintro e w1 ⟨rfl, hb1⟩)
        (try go_ret)
        exact ⟨rfl, hb1⟩
      | false =>
        have e0 := of_decide_eq_false hnb
        have e1 := of_decide_eq_false h1
        have e2 := of_decide_eq_false h2
        obtain ⟨vn, rfl⟩ : ∃ vn : Nat, m = vn := ⟨m.toNat, by omega⟩
        exact plain_in A a c cs vn v w hS ht hv hcs (by omega) (by omega) (by omega) hv1 hv2
end Go.Proofs.YtfoohdknjacenaaGreatDoor
