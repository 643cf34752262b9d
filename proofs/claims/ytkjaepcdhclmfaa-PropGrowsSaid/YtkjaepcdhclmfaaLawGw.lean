/- The walk of skolemlaw15.PropGrows: it answers true. Conditions: the arguments are 64-bit ints. -/
import Derived.Test.YtkjaepcdhclmfaaPrF
set_option linter.unusedVariables false
set_option linter.unusedSimpArgs false
namespace Go.Proofs.Ytkjaepcdhclmfaa
open Go.RowKit

theorem plc_pos' (v : Nat) : plc (v : Int) = v := plc_nat
theorem trl_one {p : Pr} {t : Nat} (ht : p.tr = [(t : Int)]) (h1 : 1 ≤ t) : valP p (t : Int) = 1 ∧ valP p ((t : Int) + 1) = 0 ∧ valP p (-(t : Int)) = 2 ∧ posV p.tr t = some 0 ∧ posV p.tr (t + 1) = none := by
  refine ⟨by unfold valP; rw [ht]; simp, ?_, ?_, ?_, ?_⟩
  · rw [valP_zero, ht]; simp; omega
  · unfold valP; rw [ht, if_neg (by simp; omega), if_pos (by simp)]
  · unfold posV; rw [ht, List.findIdx?_cons, plc_nat]; simp
  · rw [posV_none, ht]; intro l hl; simp at hl; subst hl; rw [plc_nat]; omega

set_option maxRecDepth 8000 in
set_option maxHeartbeats 4000000 in
theorem lawGw (a b : Int) (w : World) (ha1 : -9223372036854775808 ≤ a) (ha2 : a ≤ 9223372036854775807) (hb1 : -9223372036854775808 ≤ b) (hb2 : b ≤ 9223372036854775807) :
    Calls Try.prog 6 #[.int .i64 a, .int .i64 b] w fun e w' => e = .returned (.bool true) ∧ Below w.heap.size w w' := by
  obtain ⟨A, hA, hA1, hA2⟩ : ∃ A : Nat, a % 30 + 1 = (A : Int) ∧ 1 ≤ A ∧ A ≤ 30 := by
    have h1 := Int.emod_nonneg a (show (30 : Int) ≠ 0 by decide)
    have h2 := Int.emod_lt_of_pos a (show (0 : Int) < 30 by decide)
    exact ⟨(a % 30 + 1).toNat, by omega, by omega, by omega⟩
  obtain ⟨B, hB, hB1, hB2⟩ : ∃ B : Nat, b % 30 + 1 = (B : Int) ∧ 1 ≤ B ∧ B ≤ 30 := by
    have h1 := Int.emod_nonneg b (show (30 : Int) ≠ 0 by decide)
    have h2 := Int.emod_lt_of_pos b (show (0 : Int) < 30 by decide)
    exact ⟨(b % 30 + 1).toNat, by omega, by omega, by omega⟩
  have HA := Lib.hid hA
  have HB := Lib.hid hB
  have hab := Int.emod_nonneg a (show (30 : Int) ≠ 0 by decide)
  have hac := Int.emod_lt_of_pos a (show (0 : Int) < 30 by decide)
  have hbb := Int.emod_nonneg b (show (30 : Int) ≠ 0 by decide)
  have hbc := Int.emod_lt_of_pos b (show (0 : Int) < 30 by decide)
  clear hA hB
  obtain ⟨T, hT, hT1, hT2⟩ : ∃ T : Nat, T = max A B ∧ 1 ≤ T ∧ T ≤ 30 := ⟨max A B, rfl, by omega, by omega⟩
  have hmx : (if A < B then (B : Int) else (A : Int)) = (T : Int) := by split <;> omega
  have hn : (growP (newP (A : Int)) (B : Int)).n = T := by unfold growP newP cutP; simp only; omega
  have HOK : Hid (addOk (growP (newP (A : Int)) (B : Int)).n [(T : Int)] = true) := by
    unfold Hid; rw [hn]; unfold addOk
    refine decide_eq_true fun x hx => ?_
    simp at hx; subst hx
    rw [plc_nat]
    exact ⟨⟨hT1, Nat.le_refl _⟩, by simp; omega⟩
  have HNO : Hid (∀ c, addOk (addP (growP (newP (A : Int)) (B : Int)) c).n [(T : Int) + 1] = false) := by
    intro c
    unfold addOk
    refine decide_eq_false fun h => ?_
    have := (h ((T : Int) + 1) (by simp)).1.2
    rw [show (addP (growP (newP (A : Int)) (B : Int)) c).n = T from hn, show (T : Int) + 1 = ((T + 1 : Nat) : Int) by omega, plc_nat] at this
    omega
  have HNN := Lib.hid hn
  have HCL : Hid ((growP (newP (A : Int)) (B : Int)).cl = [] ∧ (growP (newP (A : Int)) (B : Int)).tr = [] ∧ (growP (newP (A : Int)) (B : Int)).st = []) := ⟨rfl, rfl, rfl⟩
  have HMX := Lib.hid hmx
  have HMX2 : Hid (max (A : Int) (B : Int) = (T : Int)) := by
    have := hmx
    unfold Hid
    split at this <;> omega
  clear hn hT hmx
  go_enter Try.func6, Try.ntmps6
  go_wp2_with fail
  refine (first15_any _).mono ?_
  rintro e w1 ⟨rfl, hbl⟩
  have HB1 := Lib.hid hbl
  clear hbl
  go_wp2_with fail
  refine (number_any a 30 _ (by decide) (by decide) ha1 ha2).mono ?_
  rintro e w' ⟨rfl, rfl⟩
  go_upto_region 5 with fail
  rw [HA.out]
  clear hab hac ha1 ha2
  go_wp2_with fail
  refine (number_any b 30 _ (by decide) (by decide) hb1 hb2).mono ?_
  rintro e w' ⟨rfl, rfl⟩
  go_upto_region 6 with fail
  rw [HB.out]
  clear hbb hbc hb1 hb2
  have H0 := Lib.hid (ps_new HB1.out (A : Int) (by omega) (by omega))
  go_wp2_with fail
  refine H0.out.mono ?_
  rintro e w2 ⟨u, rfl, hG⟩
  obtain ⟨q, rfl⟩ := hG.ptr
  have H1 := Lib.hid (ps_grow hG (B : Int) (by omega) (by omega))
  clear hG H0
  generalize growP (newP (A : Int)) (B : Int) = p0 at *
  go_wp2_with fail
  refine H1.out.mono ?_
  rintro e w3 ⟨rfl, hG⟩
  have HG := Lib.hid hG
  clear hG H1
  go_upto_region 11 with fail
  first
    | rw [HMX.out]
    | rw [HMX2.out]
  have H2 := Lib.hid (ps_add (HG.out.alloc _) _ [(T : Int)] (row1 w3 (T : Int)) (by intro x hx; simp at hx; omega) (by simp) (by rw [HCL.out.1]; simp) HOK.out)
  go_wp2_with fail
  refine H2.out.mono ?_
  rintro e w4 ⟨c, hc, rfl, hG⟩
  rw [nrm_one hc] at hG
  have H3 := Lib.hid (ps_addN (hG.alloc _) _ [(T : Int) + 1] (row1 w4 ((T : Int) + 1)) (by intro x hx; simp at hx; omega) (by simp) (by show (p0.cl ++ _).length ≤ 1000; rw [HCL.out.1]; simp) (HNO.out _))
  clear hc hG H2 HG
  have HCA : Hid ((addP p0 [(T : Int)]).cl = [some [(T : Int)]] ∧ (addP p0 [(T : Int)]).tr = [] ∧ (addP p0 [(T : Int)]).st = [] ∧ (addP p0 [(T : Int)]).n = T) := ⟨by unfold addP; simp [HCL.out.1], HCL.out.2.1, HCL.out.2.2, HNN.out⟩
  generalize addP p0 [(T : Int)] = p1 at *
  go_wp2_with fail
  refine H3.out.mono ?_
  rintro e w5 ⟨y, rfl, hG⟩
  have H4 := Lib.hid (ps_prop hG (by rw [HCA.out.1]; simp))
  clear hG H3
  go_wp2_with fail
  refine H4.out.mono ?_
  rintro e w6 ⟨x, p2, hR, rfl, hG⟩
  obtain ⟨rfl, ht, hst, hn⟩ := unit_prop hR HCA.out.1 HCA.out.2.1 HCA.out.2.2.1
  rw [HCA.out.2.2.2] at hn
  obtain ⟨v1, v2, v3, v4, v5⟩ := trl_one ht hT1
  have d1 : decOk p2 (-(T : Int)) = false := by unfold decOk; rw [v3]; simp
  have d2 : decOk p2 ((T : Int) + 1) = false := by
    unfold decOk
    rw [decide_eq_false, Bool.false_and]
    rw [hn, show (T : Int) + 1 = ((T + 1 : Nat) : Int) by omega, plc_nat]; omega
  have l1 : levP p2 (T : Int) = 0 := by unfold levP; rw [Int.toNat_natCast, v4]; simp [hst]
  have l2 : levP p2 ((T : Int) + 1) = -1 := by unfold levP; rw [show ((T : Int) + 1).toNat = T + 1 by omega, v5]
  have H5 := Lib.hid (ps_dec hG (-(T : Int)) (by omega) (by omega))
  rw [d1, show decdP p2 (-(T : Int)) = p2 by unfold decdP; rw [d1]; rfl] at H5
  have D2 := Lib.hid d2
  have D3 : Hid (decdP p2 ((T : Int) + 1) = p2) := by unfold Hid decdP; rw [d2]; rfl
  have LV := Lib.hid l1
  have LW := Lib.hid l2
  have V1 := Lib.hid v1
  have V2 := Lib.hid v2
  have ST : Hid (p2.st.length = 0) := by unfold Hid; rw [hst]; rfl
  have HT := Lib.hid ht
  clear hG hR ht hst hn v1 v2 v3 v4 v5 d1 d2 l1 l2 H4
  go_wp2_with fail
  refine H5.out.mono ?_
  rintro e w7 ⟨rfl, hG⟩
  have H6 := Lib.hid (ps_dec hG ((T : Int) + 1) (by omega) (by omega))
  rw [D2.out, D3.out] at H6
  clear hG H5
  go_wp2_with fail
  refine H6.out.mono ?_
  rintro e w8 ⟨rfl, hG⟩
  have K1 := Lib.hid (hG.use fun S hS => pval_any w8 hS (T : Int) (by omega) (by omega))
  rw [V1.out] at K1
  have K2 := Lib.hid (hG.use fun S hS => plvl_any w8 hS)
  rw [ST.out] at K2
  have K3 := Lib.hid (hG.use fun S hS => plev_any w8 hS (T : Int) (by omega) (by omega))
  rw [LV.out] at K3
  have K4 := Lib.hid (hG.use fun S hS => plev_any w8 hS ((T : Int) + 1) (by omega) (by omega))
  rw [LW.out] at K4
  have K5 := Lib.hid (hG.use fun S hS => pval_any w8 hS ((T : Int) + 1) (by omega) (by omega))
  rw [V2.out] at K5
  have K6 := Lib.hid (hG.use fun S hS => ptrl_any w8 hS)
  rw [HT.out] at K6
  have HBE := Lib.hid hG.bel
  clear hG H6
  go_wp2_with fail
  refine K1.out.mono ?_
  rintro e w' ⟨rfl, rfl⟩
  go_wp2_with fail
  refine K2.out.mono ?_
  rintro e w' ⟨rfl, rfl⟩
  go_wp2_with fail
  refine K3.out.mono ?_
  rintro e w' ⟨rfl, rfl⟩
  go_wp2_with fail
  refine K4.out.mono ?_
  rintro e w' ⟨rfl, rfl⟩
  go_wp2_with fail
  refine K5.out.mono ?_
  rintro e w' ⟨rfl, rfl⟩
  go_wp2_with fail
  refine K6.out.mono ?_
  rintro e w9 ⟨u, rfl, hu, hb9⟩
  obtain ⟨a9, c9, rfl, _⟩ := hu
  go_wp2_with fail
  go_ret
  exact ⟨rfl, HBE.out.trans (hb9.mono HBE.out.size)⟩
end Go.Proofs.Ytkjaepcdhclmfaa
