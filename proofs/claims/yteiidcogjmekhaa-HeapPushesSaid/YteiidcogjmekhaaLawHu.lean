/- The walk of skolemlaw14.HeapPushes: it answers true. Conditions: the arguments are 64-bit ints. -/
import Derived.Test.YteiidcogjmekhaaHpF
namespace Go.Proofs.Yteiidcogjmekhaa
open Go.RowKit

theorem bump_pos (x y : Int) (hx : 0 ≤ x ∧ x ≤ 1000) (hy : 0 ≤ y ∧ y ≤ 1000) : bumpI x y = x + y := by unfold bumpI; omega

set_option maxRecDepth 8000 in
set_option maxHeartbeats 4000000 in
theorem lawHu (n y v : Int) (w : World) (hn1 : -9223372036854775808 ≤ n) (hn2 : n ≤ 9223372036854775807) (hy1 : -9223372036854775808 ≤ y) (hy2 : y ≤ 9223372036854775807) (hv1 : -9223372036854775808 ≤ v) (hv2 : v ≤ 9223372036854775807) :
    Calls Try.prog 5 #[.int .i64 n, .int .i64 y, .int .i64 v] w fun e w' => e = .returned (.bool true) ∧ Below w.heap.size w w' := by
  obtain ⟨N, hN, hN1, hN2⟩ : ∃ N : Nat, n % 20 + 1 = (N : Int) ∧ 1 ≤ N ∧ N ≤ 20 := by
    have a := Int.emod_nonneg n (show (20 : Int) ≠ 0 by decide)
    have b := Int.emod_lt_of_pos n (show (0 : Int) < 20 by decide)
    exact ⟨(n % 20 + 1).toNat, by omega, by omega, by omega⟩
  obtain ⟨B, hB, hB1, hB2⟩ : ∃ B : Int, y % 100 + 1 = B ∧ 1 ≤ B ∧ B ≤ 100 := by
    have a := Int.emod_nonneg y (show (100 : Int) ≠ 0 by decide)
    have b := Int.emod_lt_of_pos y (show (0 : Int) < 100 by decide)
    exact ⟨_, rfl, by omega, by omega⟩
  obtain ⟨V, hV, hV1, hV2⟩ : ∃ V : Nat, v % (N : Int) + 1 = (V : Int) ∧ 1 ≤ V ∧ V ≤ N := by
    have a := Int.emod_nonneg v (show (N : Int) ≠ 0 by omega)
    have b := Int.emod_lt_of_pos v (show (0 : Int) < (N : Int) by omega)
    exact ⟨(v % (N : Int) + 1).toNat, by omega, by omega, by omega⟩
  have HN := Lib.hid hN
  have HBY := Lib.hid hB
  have HV := Lib.hid hV
  have hnb := Int.emod_nonneg n (show (20 : Int) ≠ 0 by decide)
  have hnc := Int.emod_lt_of_pos n (show (0 : Int) < 20 by decide)
  have hyb := Int.emod_nonneg y (show (100 : Int) ≠ 0 by decide)
  have hyc := Int.emod_lt_of_pos y (show (0 : Int) < 100 by decide)
  have hvb := Int.emod_nonneg v (show (N : Int) ≠ 0 by omega)
  have hvc := Int.emod_lt_of_pos v (show (0 : Int) < (N : Int) by omega)
  have hNc : (0 : Int) < (N : Int) := by omega
  clear hN hB hV
  go_enter Try.func5, Try.ntmps5
  go_wp2_with fail
  refine (first14_any _).mono ?_
  rintro e w1 ⟨rfl, hb1⟩
  have HB1 := Lib.hid hb1
  clear hb1
  go_wp2_with fail
  refine (number_any n 20 _ (by decide) (by decide) hn1 hn2).mono ?_
  rintro e w' ⟨rfl, rfl⟩
  go_upto_region 5 with fail
  rw [HN.out]
  clear hnb hnc hn1 hn2
  go_wp2_with fail
  refine (number_any y 100 _ (by decide) (by decide) hy1 hy2).mono ?_
  rintro e w' ⟨rfl, rfl⟩
  go_upto_region 6 with fail
  rw [HBY.out]
  clear hyb hyc hy1 hy2
  go_wp2_with fail
  refine (number_any v (N : Int) _ hNc (by omega) hv1 hv2).mono ?_
  rintro e w' ⟨rfl, rfl⟩
  go_upto_region 7 with fail
  rw [HV.out]
  clear hvb hvc hv1 hv2
  have H0 := Lib.hid (hsNew HB1.out (N : Int) (by omega) (by omega))
  have O0 := Lib.hid (One.new N V)
  go_wp2_with fail
  refine H0.out.mono ?_
  rintro e w2 ⟨u, rfl, hG⟩
  obtain ⟨p, rfl⟩ := hG.ptr
  have hb := O0.out.bump hV1 hV2 B
  rw [bump_pos 0 B (by omega) (by omega), Int.zero_add] at hb
  have H1 := Lib.hid (hsBump hG (V : Int) B (by omega) (by omega))
  rw [hb.1] at H1
  have O1 := Lib.hid hb.2
  clear hG hb O0
  generalize bumpH (newH (N : Int)) (V : Int) B = h1 at *
  go_wp2_with fail
  refine H1.out.mono ?_
  rintro e w3 ⟨rfl, hG⟩
  have hp := O1.out.inn hV1 hV2
  have H2 := Lib.hid (hsPush hG (V : Int) (by omega) (by omega))
  rw [hp.1, hp.2] at H2
  clear hG hp
  have hBB : (B == B) = true := by simp
  have hBN : (B != B) = false := by simp
  go_wp2_with fail
  refine H2.out.mono ?_
  rintro e w4 ⟨rfl, hG⟩
  have hp := O1.out.pop hV1 hV2 (by omega) 0
  have H3 := Lib.hid (hsPop hG 0 (by decide) (by decide))
  rw [hp.1, hp.2.1] at H3
  have O2 := Lib.hid hp.2.2
  clear hG hp O1
  generalize popH h1 0 = h2 at *
  go_wp2_with fail
  refine H3.out.mono ?_
  rintro e w5 ⟨rfl, hG⟩
  obtain ⟨a1, a2, a3, a4⟩ := O2.out.out hV1 hV2
  have H4 := Lib.hid (hsHas hG (V : Int))
  rw [a1] at H4
  have H5 := Lib.hid (hsLen hG)
  rw [a2] at H5
  have hb := O2.out.bump hV1 hV2 5
  rw [bump_pos B 5 (by omega) (by omega)] at hb
  have H6 := Lib.hid (hsBump hG (V : Int) 5 (by omega) (by omega))
  rw [hb.1] at H6
  have O3 := Lib.hid hb.2
  clear hG hb O2 a1 a2 a3 a4
  generalize bumpH h2 (V : Int) 5 = h3 at *
  have hVV : ((V : Int) == (V : Int)) = true := by simp
  have hVN : ((V : Int) != (V : Int)) = false := by simp
  have hNN : ((N : Int) - 1 != (N : Int) - 1) = false := by simp
  have hB5 : (B + 5 != B + 5) = false := by simp
  go_wp2_with fail
  refine H4.out.mono ?_
  rintro e w' ⟨rfl, rfl⟩
  go_wp2_with fail
  refine H5.out.mono ?_
  rintro e w' ⟨rfl, rfl⟩
  go_wp2_with fail
  refine H6.out.mono ?_
  rintro e w6 ⟨rfl, hG⟩
  obtain ⟨a1, a2, a3, a4⟩ := O3.out.out hV1 hV2
  have H7 := Lib.hid (hsPush hG (V : Int) (by omega) (by omega))
  rw [a3] at H7
  have O4 := Lib.hid a4
  clear hG a1 a2 a3 a4 O3
  generalize pushH h3 (V : Int) = h4 at *
  go_wp2_with fail
  refine H7.out.mono ?_
  rintro e w7 ⟨rfl, hG⟩
  have hp := O4.out.inn hV1 hV2
  have H8 := Lib.hid (hsPush hG (V : Int) (by omega) (by omega))
  rw [hp.1, hp.2] at H8
  clear hG hp
  go_wp2_with fail
  refine H8.out.mono ?_
  rintro e w8 ⟨rfl, hG⟩
  have H9 := Lib.hid (hsGrow hG ((N : Int) + 3) (by omega) (by omega))
  have O5 := Lib.hid (O4.out.grow hV2 (N + 3) (by omega))
  rw [show ((N + 3 : Nat) : Int) = (N : Int) + 3 by omega] at O5
  clear hG O4
  generalize growH h4 ((N : Int) + 3) = h5 at *
  go_wp2_with fail
  refine H9.out.mono ?_
  rintro e w9 ⟨rfl, hG⟩
  have hp := O5.out.pop hV1 (by omega) (by omega) 7
  have H10 := Lib.hid (hsPop hG 7 (by decide) (by decide))
  rw [hp.1, hp.2.1] at H10
  have O6 := Lib.hid hp.2.2
  clear hG hp O5
  generalize popH h5 7 = h6 at *
  go_wp2_with fail
  refine H10.out.mono ?_
  rintro e w10 ⟨rfl, hG⟩
  have H11 := Lib.hid (hsLen hG)
  have e1 : ((manyH h6 : Nat) : Int) = (N : Int) + 2 := by have := O6.out.mc; simp at this; omega
  rw [e1] at H11
  have hin : h6.ins.getD (N + 3) false = true := by rw [O6.out.ic]; simp; omega
  have his : isH h6 ((N : Int) + 3) = true := by rw [isH_iff, O6.out.ls]; omega
  have hno : isH h6 ((N : Int) + 4) = false := by rw [Bool.eq_false_iff]; intro hh; rw [isH_iff, O6.out.ls] at hh; omega
  have hnz : isH h6 0 = false := by rw [Bool.eq_false_iff]; intro hh; rw [isH_iff] at hh; omega
  have H12 := Lib.hid (hsHas hG ((N : Int) + 3))
  have e2 : hasH h6 ((N : Int) + 3) = true := by unfold hasH; rw [his, show ((N : Int) + 3).toNat = N + 3 by omega, hin]; rfl
  rw [e2] at H12
  have H13 := Lib.hid (hsScore hG ((N : Int) + 3))
  have e3 : scoreH h6 ((N : Int) + 3) = 0 := by unfold scoreH; rw [if_pos his, show ((N : Int) + 3).toNat = N + 3 by omega, O6.out.sc, if_neg (by omega)]
  rw [e3] at H13
  have H14 := Lib.hid (hsPush hG ((N : Int) + 4) (by omega) (by omega))
  have e4 : pushOk h6 ((N : Int) + 4) = false := by unfold pushOk; rw [hno]; rfl
  have e5 : pushH h6 ((N : Int) + 4) = h6 := by unfold pushH; rw [e4]; rfl
  rw [e4, e5] at H14
  have e6 : scoreH h6 0 = 0 := by unfold scoreH; rw [hnz]; rfl
  have E6 := Lib.hid e6
  have hN2' : ((N : Int) + 2 == (N : Int) + 2) = true := by simp
  clear hG e1 hin his hno hnz e2 e3 e4 e5 e6 O6
  go_wp2_with fail
  refine H11.out.mono ?_
  rintro e w' ⟨rfl, rfl⟩
  go_wp2_with fail
  refine H12.out.mono ?_
  rintro e w' ⟨rfl, rfl⟩
  go_wp2_with fail
  refine H13.out.mono ?_
  rintro e w' ⟨rfl, rfl⟩
  go_wp2_with fail
  refine H14.out.mono ?_
  rintro e w11 ⟨rfl, hG⟩
  have H15 := Lib.hid (hsScore hG 0)
  rw [E6.out] at H15
  have HBE := Lib.hid hG.bel
  clear hG
  go_wp2_with fail
  refine H15.out.mono ?_
  rintro e w' ⟨rfl, rfl⟩
  go_wp2_with fail
  go_ret
  exact ⟨rfl, HBE.out⟩
end Go.Proofs.Yteiidcogjmekhaa
