/- The walk of skolemlaw17.PaceRestarts: it answers true. Conditions: the script's lists and the number read as 64-bit ints. -/
import Derived.Test.YtnhmeojcjnkebaaPaD
set_option linter.unusedVariables false
set_option linter.unusedSimpArgs false
namespace Go.Proofs.Ytnhmeojcjnkebaa
open Go.RowKit

/-- What the loop keeps. -/
def PrI9 (w W : World) (B g : Nat) (a : Option Addr) (c : Nat) (x0 : List Int) (j s l : Nat) : Prop :=
  s ≤ j ∧ 16 ≤ l ∧ l ≤ 16 + 8 * j ∧ (∃ pl, PcS B W g a c x0 pl 0 (j : Int) (s : Int) (l : Int)) ∧ Below w.heap.size w W

set_option maxRecDepth 8000 in
set_option maxHeartbeats 8000000 in
theorem lawPr (w : World) (v0 v1 v2 v3 : Value) (x0 x1 x2 x3 : List Int) (bud rou kn : Int) (r0 : Row w v0 x0) (r1 : Row w v1 x1) (r2 : Row w v2 x2) (r3 : Row w v3 x3) (hi : ∀ x ∈ x0, -9223372036854775808 ≤ x ∧ x ≤ 9223372036854775807) (h1 : -9223372036854775808 ≤ kn) (h2 : kn ≤ 9223372036854775807) :
    Calls Try.prog 3 #[.agg #[v0, v1, v2, v3, .int .i64 bud, .int .i64 rou], .int .i64 kn] w fun e w' => e = .returned (.bool true) ∧ Below w.heap.size w w' := by
  have HR0 : Hid (∀ V, Below w.heap.size w V → Row V v0 x0 ∧ Row V v1 x1 ∧ Row V v2 x2 ∧ Row V v3 x3) := fun V hV => ⟨r0.keep hV, r1.keep hV, r2.keep hV, r3.keep hV⟩
  have HI := Lib.hid hi
  have HNB := Lib.hid (fun V => number_any kn 600 V (by decide) (by decide) h1 h2)
  obtain ⟨N, hN, hN6⟩ : ∃ N : Nat, kn % 600 = (N : Int) ∧ N ≤ 600 := ⟨(kn % 600).toNat, by omega, by omega⟩
  rw [hN] at HNB
  obtain ⟨a0, c0, rfl, m0, _⟩ := r0
  obtain ⟨a1, c1, rfl, m1, _⟩ := r1
  obtain ⟨a2, c2, rfl, m2, _⟩ := r2
  obtain ⟨a3, c3, rfl, m3, _⟩ := r3
  have HSM := Lib.hid (fun V => small_any V a0 a1 a2 a3 c0 c1 c2 c3 x0.length x1.length x2.length x3.length bud rou m0 m1 m2 m3)
  have HFR := Lib.hid (fun V => free_any V a0 a1 a2 a3 c0 c1 c2 c3 x0.length x1.length x2.length x3.length bud rou)
  obtain ⟨A, hA⟩ : ∃ A, A = w.alloc (.cells #[.slice a0 x0.length c0, .slice a1 x1.length c1, .slice a2 x2.length c2, .slice a3 x3.length c3, .int .i64 bud, .int .i64 rou] 24) := ⟨_, rfl⟩
  have hbA : Below w.heap.size w A := by rw [hA]; exact (Below.refl _ _).alloc (Nat.le_refl _) _
  have hsA : A.heap.size = w.heap.size + 1 := by rw [hA]; exact Array.size_push _
  have hcA : ∀ k v, (#[.slice a0 x0.length c0, .slice a1 x1.length c1, .slice a2 x2.length c2, .slice a3 x3.length c3, .int .i64 bud, .int .i64 rou] : Array Value)[k]? = some v → A.cell? ⟨w.heap.size, k, none⟩ = some v := fun k v h => by
    rw [hA]
    unfold World.cell?
    rw [show (w.alloc _).heap[w.heap.size]? = _ from heap_alloc_new w _]
    simpa using h
  have HCL : Hid (∀ V, Below A.heap.size A V → V.cell? ⟨w.heap.size, 0, none⟩ = some (.slice a0 x0.length c0) ∧ V.cell? ⟨w.heap.size, 1, none⟩ = some (.slice a1 x1.length c1) ∧ V.cell? ⟨w.heap.size, 2, none⟩ = some (.slice a2 x2.length c2) ∧ V.cell? ⟨w.heap.size, 3, none⟩ = some (.slice a3 x3.length c3) ∧ V.cell? ⟨w.heap.size, 4, none⟩ = some (.int .i64 bud) ∧ V.cell? ⟨w.heap.size, 5, none⟩ = some (.int .i64 rou)) := fun V hV => by
    have hb : ∀ k, V.cell? ⟨w.heap.size, k, none⟩ = A.cell? ⟨w.heap.size, k, none⟩ := fun k => hV.cell (p := ⟨w.heap.size, k, none⟩) (by rw [hsA]; exact Nat.lt_succ_self _)
    exact ⟨(hb 0).trans (hcA 0 _ rfl), (hb 1).trans (hcA 1 _ rfl), (hb 2).trans (hcA 2 _ rfl), (hb 3).trans (hcA 3 _ rfl), (hb 4).trans (hcA 4 _ rfl), (hb 5).trans (hcA 5 _ rfl)⟩
  have HW : Hid (∀ V, Below A.heap.size A V → Below w.heap.size w V) := fun V hV => hbA.trans (hV.mono (by rw [hsA]; exact Nat.le_succ _))
  have HA := Lib.hid hA
  clear hcA hsA hi h1 h2 hN hbA m0 m1 m2 m3
  go_enter Try.func3, Try.ntmps3
  go_upto_region 1 with fail
  rw [← hA]
  clear hA
  go_wp2_with fail
  refine (first17_any _).mono ?_
  rintro e w1 ⟨rfl, hb1⟩
  obtain ⟨z0, z1, z2, z3, z4, z5⟩ := HCL.out _ hb1
  have HB1 := Lib.hid hb1
  clear hb1
  go_wp2_with fail
  refine (HSM.out _).mono ?_
  rintro e w2 ⟨rfl, hb2⟩
  have HB2 : Hid (Below A.heap.size A w2) := HB1.out.trans (hb2.mono HB1.out.size)
  obtain ⟨y0, y1, y2, y3, y4, y5⟩ := HCL.out _ HB2.out
  clear hb2 z0 z1 z2 z3 z4 z5
  by_cases hsm : x0.length ≤ 50 ∧ x1.length ≤ 50 ∧ x2.length ≤ 50 ∧ x3.length ≤ 50
  · rw [decide_eq_true hsm]
    have HSZ := Lib.hid hsm
    clear hsm
    go_wp2_with fail
    refine (HNB.out _).mono ?_
    rintro e w' ⟨rfl, rfl⟩
    go_wp2_with fail
    refine (HFR.out _).mono ?_
    rintro e w3 ⟨rfl, hb3⟩
    have HB3 : Hid (Below A.heap.size A w3) := HB2.out.trans (hb3.mono HB2.out.size)
    obtain ⟨q0, q1, q2, q3⟩ := HR0.out _ (HW.out _ HB3.out)
    have HPN := Lib.hid (pcnew_any w3 _ _ _ _ x0 x1 x2 x3 0 0 q0 q1 q2 q3 (by have := HSZ.out.1; omega) (by have := HSZ.out.2.1; omega) (by have := HSZ.out.2.2.1; omega) (by have := HSZ.out.2.2.2; omega))
    clear hb3 q0 q1 q2 q3 y0 y1 y2 y3 y4 y5 HSM HFR HNB
    go_wp2_with fail
    refine HPN.out.mono ?_
    rintro e w4 ⟨g, a, c, rfl, hP, hb4⟩
    have HB4 : Hid (Below w.heap.size w w4) := (HW.out _ HB3.out).trans (hb4.mono (HW.out _ HB3.out).size)
    have HP := Lib.hid hP
    have HG3 : Hid (w.heap.size ≤ w3.heap.size) := (HW.out _ HB3.out).size
    clear hP hb4 HPN
    generalize w3.heap.size = B at *
    go_wp2_with fail
    go_loopw [7, 8, 9] (fun lv sv iv W => ∃ (j s l : Nat), j ≤ N ∧ lv = .int .i64 (l : Int) ∧ sv = .int .i64 (s : Int) ∧ iv = .int .i64 (j : Int) ∧ PrI9 w W B g a c x0 j s l) (fun _ _ iv _ => N - (intOf iv).toNat)
    case atStart => exact ⟨0, 0, 16, Nat.zero_le _, rfl, rfl, rfl, Nat.le_refl _, Nat.le_refl _, by omega, ⟨0, HP.out⟩, HB4.out⟩
    case round =>
      obtain ⟨j, s, l, hj, rfl, rfl, rfl, hs, hl1, hl2, ⟨pl, hP⟩, hB⟩ := hrel
      have HPJ := Lib.hid hP
      have HBJ := Lib.hid hB
      clear HP HB4 hP hB
      by_cases hlt : j < N
      · as_aux_lemma =>
        have HCF := Lib.hid (conf_any wr HPJ.out (by omega) (by omega) (by omega) (by omega))
        go_wp2_with fail
        refine HCF.out.mono ?_
        rintro e w5 ⟨rfl, hP5, hC5⟩
        have HLS := Lib.hid (least_any _ hP5)
        have HRS := Lib.hid (restart_any _ hP5 HI.out (by omega) (by omega) (by omega) (by omega))
        have HB5 : Hid (Below w.heap.size w w5) := hC5.below HBJ.out HBJ.out.size (by intro i hi; simp at hi; subst hi; exact Nat.le_trans HG3.out HPJ.out.gB)
        have HGG := Lib.hid (Nat.le_trans HG3.out HPJ.out.gB)
        clear hP5 hC5 HCF HPJ
        go_wp2_with fail
        refine HLS.out.mono ?_
        rintro e w' ⟨rfl, rfl⟩
        have nn : ((l : Int) != (l : Int)) = false := by simp
        go_wp2_with fail
        refine HRS.out.mono ?_
        rintro e w6 ⟨b, pl', rfl, hle, hP6, hC6⟩
        have HB6 : Hid (Below w.heap.size w w6) := hC6.below HB5.out HB5.out.size (by intro i hi; simp at hi; subst hi; exact HGG.out)
        have HP6 := Lib.hid hP6
        clear hC6 hP6 HRS HLS nn
        cases b with
        | true =>
          have hle' := hle rfl
          have d1 : decide ((s : Int) + 1 < (l : Int)) = false := decide_eq_false (by omega)
          have HPE : Hid (PcS B w6 g a c x0 pl' 0 ((j + 1 : Nat) : Int) ((0 : Nat) : Int) ((l + 8 : Nat) : Int)) := by
            have h := HP6.out
            simp only [if_true] at h
            rw [show ((j + 1 : Nat) : Int) = (j : Int) + 1 by omega, show ((l + 8 : Nat) : Int) = (l : Int) + 8 by omega]
            exact h
          clear hle hle' HP6
          go_wp2_with fail
          go_roundw
          case rel => exact ⟨j + 1, 0, l + 8, by omega, by go_num, rfl, by go_num, Nat.zero_le _, by omega, by omega, ⟨pl', HPE.out⟩, HB6.out⟩
          case measure => go_light; simp [intOf]; omega
        | false =>
          have HPE : Hid (PcS B w6 g a c x0 pl' 0 ((j + 1 : Nat) : Int) ((s + 1 : Nat) : Int) (l : Int)) := by
            have h := HP6.out
            simp only [Bool.false_eq_true, if_false] at h
            rw [show ((j + 1 : Nat) : Int) = (j : Int) + 1 by omega, show ((s + 1 : Nat) : Int) = (s : Int) + 1 by omega]
            exact h
          clear hle HP6
          go_wp2_with fail
          go_roundw
          case rel => exact ⟨j + 1, s + 1, l, by omega, rfl, by go_num, by go_num, by omega, hl1, by omega, ⟨pl', HPE.out⟩, HB6.out⟩
          case measure => go_light; simp [intOf]; omega
      · as_aux_lemma =>
        have e1 : decide ((j : Int) < (N : Int)) = false := decide_eq_false (by omega)
        have e2 : decide (j < N) = false := decide_eq_false hlt
        have HLF := Lib.hid (left_any _ HPJ.out)
        clear hlt
        go_wp2_with fail
        refine HLF.out.mono ?_
        rintro e w' ⟨rfl, rfl⟩
        go_wp2_with fail
        go_ret
        exact ⟨rfl, HBJ.out⟩
  · rw [decide_eq_false hsm]
    have HBE := Lib.hid (HW.out _ HB2.out)
    clear hsm
    go_wp2_with fail
    go_ret
    exact ⟨rfl, HBE.out⟩
end Go.Proofs.Ytnhmeojcjnkebaa
