/- The law GraphBuilds: true for whatever arguments. Conditions: the circuit and the slices read as 64-bit ints; the errors lie as 'Sents' says. -/
import Derived.Test.YtbighmmjmklioaaDoorMkD
import Derived.Test.YtbighmmjmklioaaDoorGbA
import Derived.Test.YtbighmmjmklioaaDoorRbB
import Derived.Test.YtbighmmjmklioaaDoorRgK
import Derived.Test.YtbighmmjmklioaaDoorSmP
import Derived.Test.YtbighmmjmklioaaDoorPst
namespace Go.Proofs.YtbighmmjmklioaaDoor
open Go.RowKit

theorem bb_step {w0 W W' : World} (h : Below w0.heap.size w0 W) (hb : Below W.heap.size W W') : Below w0.heap.size w0 W' := h.trans (hb.mono h.size)
theorem checkC_badC (n : Int) (ps : List (Int × Int)) (os : List Int) : badC (checkC n ps os) := by
  rcases check_vals n ps os with h | h | h
  · exact .inl h
  · exact .inr (.inl h)
  · exact .inr (.inr h)
/-- What a right circuit comes to, and comes to again. -/
theorem build_twice (N : Nat) (ps : List (Int × Int)) (os : List Int) (hc : checkC (N : Int) ps os = 0) : checkC (((buildB N ps).1.n : Nat) : Int) (buildB N ps).1.ands (outsB N ps os) = 0 ∧ (buildB (buildB N ps).1.n (buildB N ps).1.ands).1 = (buildB N ps).1 ∧
    outsB (buildB N ps).1.n (buildB N ps).1.ands (outsB N ps os) = outsB N ps os ∧ (outsB N ps os).length = os.length ∧ (buildB N ps).1.len ≤ 8000 ∧ (∀ x ∈ (buildB N ps).1.ands, in64 x.1 ∧ in64 x.2) ∧ ∀ o ∈ outsB N ps os, in64 o := by
  obtain ⟨h1, h2, h3⟩ := check_zero8 hc
  have hI := InvB.all N ps h1
  have hl : (buildB N ps).1.len ≤ 8000 := Nat.le_trans hI.len h1
  have hN := Nrm.build N ps h1
  have hO := outs_isB N ps os h1
  have hc2 := nrm_right hN _ hO hl
  obtain ⟨g1, g2, g3⟩ := check_zero8 hc2
  refine ⟨hc2, by rw [build_again hN hI.bad], outs_again hN hI.bad _ hO, by unfold outsB; rw [List.length_map], hl, okP_in g1 g2, fun o ho => ?_⟩
  have := (isB_iff _ _).1 (hO o ho)
  unfold in64
  omega

set_option maxRecDepth 8000 in
set_option maxHeartbeats 4000000 in
theorem lawBd_out (A : Nat → Addr) (n : Int) (u v : Value) (ps : List (Int × Int)) (os : List Int) (i : Int) (a2 : Option Addr) (c2 m2 : Nat) (a3 : Option Addr) (c3 m3 : Nat) (w : World) (hS : Sents w A) (hu : PRow w u ps) (hv : Row w v os) (ho : 100 < ps.length ∨ 100 < os.length ∨ 200 < m2 ∨ 20 < m3 ∨ i < 0 ∨ 50 < i) :
    Calls Tryd.prog 7 #[circV n u v, .int .i64 i, .slice a2 m2 c2, .slice a3 m3 c3] w fun e w' => e = .returned (.bool true) ∧ Below w.heap.size w w' := by
  obtain ⟨a0, c0, rfl, _⟩ := hu
  obtain ⟨a1, c1, rfl, _⟩ := hv
  generalize ps.length = m0 at *
  generalize os.length = m1 at *
  unfold circV
  have HBX := Lib.hid (fun W hW => cirC_box w W n (.slice a0 m0 c0) (.slice a1 m1 c1) hW)
  unfold CirC at HBX
  have HF := Lib.hid (first8_any A (w.alloc (.cells #[.int .i64 n, .slice a0 m0 c0, .slice a1 m1 c1] 43)) (hS.two.keep ((Below.refl _ w).alloc (Nat.le_refl _) _)))
  clear hS
  have HB0 : Hid ((w.alloc (.cells #[.int .i64 n, .slice a0 m0 c0, .slice a1 m1 c1] 43)).heap.size = w.heap.size + 1) := by unfold Hid; simp
  rw [HB0.out] at HF
  by_cases d1 : 100 < m0
  · have d1' : decide (100 < m0) = true := decide_eq_true d1
    clear ho
    go_enter Tryd.func7, Tryd.ntmps7
    go_wp2_with fail
    refine HF.out.mono ?_
    rintro e w1 ⟨rfl, hb1⟩
    obtain ⟨⟨k0, k1, k2⟩, hbw⟩ := HBX.out _ hb1
    go_wp2_with fail
    go_ret
    exact ⟨rfl, hbw⟩
  · have d1' : decide (100 < m0) = false := decide_eq_false d1
    by_cases d2 : 100 < m1
    · have d2' : decide (100 < m1) = true := decide_eq_true d2
      clear ho
      go_enter Tryd.func7, Tryd.ntmps7
      go_wp2_with fail
      refine HF.out.mono ?_
      rintro e w1 ⟨rfl, hb1⟩
      obtain ⟨⟨k0, k1, k2⟩, hbw⟩ := HBX.out _ hb1
      go_wp2_with fail
      go_ret
      exact ⟨rfl, hbw⟩
    · have d2' : decide (100 < m1) = false := decide_eq_false d2
      by_cases d3 : 200 < m2
      · have d3' : decide (200 < m2) = true := decide_eq_true d3
        clear ho
        go_enter Tryd.func7, Tryd.ntmps7
        go_wp2_with fail
        refine HF.out.mono ?_
        rintro e w1 ⟨rfl, hb1⟩
        obtain ⟨⟨k0, k1, k2⟩, hbw⟩ := HBX.out _ hb1
        go_wp2_with fail
        go_ret
        exact ⟨rfl, hbw⟩
      · have d3' : decide (200 < m2) = false := decide_eq_false d3
        by_cases d4 : 20 < m3
        · have d4' : decide (20 < m3) = true := decide_eq_true d4
          clear ho
          go_enter Tryd.func7, Tryd.ntmps7
          go_wp2_with fail
          refine HF.out.mono ?_
          rintro e w1 ⟨rfl, hb1⟩
          obtain ⟨⟨k0, k1, k2⟩, hbw⟩ := HBX.out _ hb1
          go_wp2_with fail
          go_ret
          exact ⟨rfl, hbw⟩
        · have d4' : decide (20 < m3) = false := decide_eq_false d4
          by_cases d5 : i < 0
          · clear ho
            go_enter Tryd.func7, Tryd.ntmps7
            go_wp2_with fail
            refine HF.out.mono ?_
            rintro e w1 ⟨rfl, hb1⟩
            obtain ⟨⟨k0, k1, k2⟩, hbw⟩ := HBX.out _ hb1
            go_wp2_with fail
            go_ret
            exact ⟨rfl, hbw⟩
          · have d6 : 50 < i := by omega
            clear ho
            go_enter Tryd.func7, Tryd.ntmps7
            go_wp2_with fail
            refine HF.out.mono ?_
            rintro e w1 ⟨rfl, hb1⟩
            obtain ⟨⟨k0, k1, k2⟩, hbw⟩ := HBX.out _ hb1
            go_wp2_with fail
            go_ret
            exact ⟨rfl, hbw⟩

set_option maxRecDepth 8000 in
set_option maxHeartbeats 8000000 in
theorem lawBd_any (A : Nat → Addr) (n : Int) (u v : Value) (ps : List (Int × Int)) (os : List Int) (i0 : Int) (a2 : Option Addr) (c2 : Nat) (ls : List Int) (a3 : Option Addr) (c3 : Nat) (ts : List Int) (w : World) (hS : Sents w A) (hu : PRow w u ps) (hv : Row w v os) (hn : in64 n) (hpb : ∀ x ∈ ps, in64 x.1 ∧ in64 x.2) (hob : ∀ o ∈ os, in64 o)
    (hl : RowAt w a2 c2 ls) (hlb : ∀ y ∈ ls, in64 y) (ht : RowAt w a3 c3 ts) (htb : ∀ y ∈ ts, in64 y) :
    Calls Tryd.prog 7 #[circV n u v, .int .i64 i0, .slice a2 ls.length c2, .slice a3 ts.length c3] w fun e w' => e = .returned (.bool true) ∧ Below w.heap.size w w' := by
  by_cases hout : 100 < ps.length ∨ 100 < os.length ∨ 200 < ls.length ∨ 20 < ts.length ∨ i0 < 0 ∨ 50 < i0
  · exact lawBd_out A n u v ps os i0 a2 c2 ls.length a3 c3 ts.length w hS hu hv hout
  have d1 : decide (100 < ps.length) = false := decide_eq_false fun h => hout (.inl h)
  have d2 : decide (100 < os.length) = false := decide_eq_false fun h => hout (.inr (.inl h))
  have d3 : decide (200 < ls.length) = false := decide_eq_false fun h => hout (.inr (.inr (.inl h)))
  have d4 : decide (20 < ts.length) = false := decide_eq_false fun h => hout (.inr (.inr (.inr (.inl h))))
  have e1 : ¬ 100 < ps.length := fun h => hout (.inl h)
  have e2 : ¬ 100 < os.length := fun h => hout (.inr (.inl h))
  have e3 : ¬ 200 < ls.length := fun h => hout (.inr (.inr (.inl h)))
  have e4 : ¬ 20 < ts.length := fun h => hout (.inr (.inr (.inr (.inl h))))
  obtain ⟨N, rfl⟩ : ∃ N : Nat, i0 = (N : Int) := ⟨i0.toNat, by omega⟩
  have e5 : ¬ (N : Int) < 0 := fun h => hout (.inr (.inr (.inr (.inr (.inl h)))))
  have e6 : ¬ (50 : Int) < (N : Int) := fun h => hout (.inr (.inr (.inr (.inr (.inr h)))))
  clear hout
  have HCK := Lib.hid (fun W (hW : Below w.heap.size w W) => gcheck_any A n u v ps os W (hS.two.keep hW) (hu.keep hW) (hv.keep hW) hn (by omega) (by omega) hpb hob)
  have HRC := Lib.hid (fun W (hW : Below w.heap.size w W) => rcheck_any n u v ps os W (hu.keep hW) (hv.keep hW) hn (by omega) (by omega) hpb hob)
  have HGB := Lib.hid (fun W (hW : Below w.heap.size w W) => gbuild_any A n u v ps os W (hS.two.keep hW) (hu.keep hW) (hv.keep hW) hn (by omega) (by omega) hpb hob)
  have HCO := Lib.hid (fun W (hW : Below w.heap.size w W) => code_any (errC A (checkC n ps os)) (checkC n ps os) false 0 W (errAs_code (hS.keep hW) _ (checkC_badC n ps os)))
  have HMK := Lib.hid (fun W (hW : Below w.heap.size w W) => mkc_any N (.slice a2 ls.length c2) (.slice a3 ts.length c3) ls ts W ⟨_, _, rfl, hl.keep hW⟩ ⟨_, _, rfl, ht.keep hW⟩ (by omega) (by omega) (by omega) hlb htb)
  have HS := Lib.hid (fun W (hW : Below w.heap.size w W) => hS.two.keep hW)
  obtain ⟨a0, c0, rfl, _⟩ := hu
  obtain ⟨a1, c1, rfl, _⟩ := hv
  have HBX := Lib.hid (fun W hW => cirC_box w W n (.slice a0 ps.length c0) (.slice a1 os.length c1) hW)
  unfold CirC at HBX
  have HTL : Hid (ts.length ≤ 20) := by unfold Hid; omega
  clear hS hpb hob hl hlb ht htb hn
  unfold circV at *
  generalize checkC n ps os = cc at *
  generalize ps.length = m0 at *
  generalize os.length = m1 at *
  generalize ls.length = m2 at *
  generalize ts.length = m3 at *
  have HB0 : Hid ((w.alloc (.cells #[.int .i64 n, .slice a0 m0 c0, .slice a1 m1 c1] 43)).heap.size = w.heap.size + 1) := by unfold Hid; simp
  rw [← HB0.out] at HBX
  have HSW := Lib.hid (HS.out _ ((Below.refl _ w).alloc (Nat.le_refl _) (.cells #[.int .i64 n, .slice a0 m0 c0, .slice a1 m1 c1] 43)))
  go_enter Tryd.func7, Tryd.ntmps7
  go_wp2_with fail
  generalize w.alloc (.cells #[.int .i64 n, .slice a0 m0 c0, .slice a1 m1 c1] 43) = w0 at *
  clear HB0
  refine (first8_any A w0 HSW.out).mono ?_
  rintro e w1 ⟨rfl, hb1⟩
  have HX := Lib.hid (fun W (hW : Below w0.heap.size w0 W) => (HBX.out W hW).1)
  have HW := Lib.hid (fun W (hW : Below w0.heap.size w0 W) => (HBX.out W hW).2)
  obtain ⟨k0, k1, k2⟩ := HX.out _ hb1
  have hV0 : Below w0.heap.size w0 w1.drew := bb_step hb1 (Below.refl _ _).drew
  go_wp2_with fail
  clear k0 k1 k2
  go_region_held3 (fun W => W.cell? ⟨w.heap.size, 0, none⟩ = some (.int .i64 n) ∧ W.cell? ⟨w.heap.size, 1, none⟩ = some (.slice a0 m0 c0) ∧ W.cell? ⟨w.heap.size, 2, none⟩ = some (.slice a1 m1 c1)) (first | exact HX.out _ hV0 | exact HX.out _ hVC | exact HX.out _ hVK | exact HX.out _ hVR) (first
    | (go_at_call 39; refine (HCK.out _ (HW.out _ hV0)).mono ?_; rintro e wC ⟨rfl, hbC⟩; have hVC := bb_step hV0 hbC; clear hbC)
    | (go_at_call 38; refine (HCO.out _ (HW.out _ hVC)).mono ?_; rintro e wK ⟨rfl, hbK⟩; have hVK := bb_step hVC hbK; clear hbK)
    | (go_at_call 40; refine (HRC.out _ (HW.out _ hVK)).mono ?_; rintro e wR ⟨rfl, hbR⟩; have hVR := bb_step hVK hbR; clear hbR))
  all_goals
    have HVR := Lib.hid hVR
    have HM := Lib.hid (HMK.out _ (HW.out _ hVR))
    clear hV0 hVC hVK hVR hb1
    go_wp2_with fail
    refine HM.out.mono ?_
    rintro e w3 ⟨⟨u', v', ps', os', rfl, hu', hv', hck, hpl, hol, hpb, hob⟩, hb3⟩
    have HB3 := Lib.hid (bb_step HVR.out hb3)
    clear hb3 HM HVR
    have HBX2 := Lib.hid (fun W hW => cirC_box w3 W (N : Int) u' v' hW)
    unfold CirC at HBX2
    have HA4 : Hid (Below w3.heap.size w3 (w3.alloc (.cells #[.int .i64 (N : Int), u', v'] 43))) := (Below.refl _ _).alloc (Nat.le_refl _) _
    have HU := Lib.hid (fun W (hW : Below w3.heap.size w3 W) => hu'.keep hW)
    have HV := Lib.hid (fun W (hW : Below w3.heap.size w3 W) => hv'.keep hW)
    obtain ⟨h1, h2, h3, h4, h5, h6, h7⟩ := build_twice N ps' os' hck
    have HB4 := Lib.hid (bb_step HB3.out HA4.out)
    have HC4 := Lib.hid (gbuild_ok A N u' v' ps' os' _ (HS.out _ (HW.out _ HB4.out)) (HU.out _ HA4.out) (HV.out _ HA4.out) (by omega) hpb hob hck)
    have HC5 := Lib.hid (fun W (hW : Below w3.heap.size w3 W) => rbuild_ok N u' v' ps' os' W (HU.out _ hW) (HV.out _ hW) (by omega) hck)
    have hoL : (outsB N ps' os').length ≤ 20 := by rw [h4]; have := HTL.out; omega
    have HOL := Lib.hid hoL
    have HNA := Lib.hid (fun W A S p (h : GrM W A p S (buildB N ps').1) => h)
    obtain ⟨au, cu, rfl, _⟩ := hu'
    obtain ⟨av, cv, rfl, _⟩ := hv'
    clear hck hpl hol hpb hob h4 hoL HNA
    generalize ps'.length = m5 at *
    generalize os'.length = m6 at *
    generalize outsB N ps' os' = outs at *
    generalize (buildB N ps').1 = g at *
    have HZ4 : Hid ((w3.alloc (.cells #[.int .i64 (N : Int), .slice au m5 cu, .slice av m6 cv] 43)).heap.size = w3.heap.size + 1) := by unfold Hid; simp
    rw [← HZ4.out] at HBX2
    unfold circV at *
    go_wp2_with fail
    refine HC4.out.mono ?_
    rintro e w5 ⟨⟨gv, ov, S, rfl, hG, hSn, hov⟩, hb5⟩
    obtain ⟨gp, rfl⟩ : ∃ p, gv = .pointer (some ⟨p, 0, none⟩) := by obtain ⟨p, m, u, N, D, h⟩ := hG; exact ⟨p, h.val⟩
    generalize hw4 : w3.alloc (.cells #[.int .i64 (N : Int), .slice au m5 cu, .slice av m6 cv] 43) = w4 at *
    have HB5 := Lib.hid (bb_step HB4.out hb5)
    obtain ⟨⟨k0, k1, k2⟩, hb35⟩ := HBX2.out _ hb5
    have HR5 := Lib.hid (HC5.out _ hb35)
    have HO5 := Lib.hid (fun W (hW : Below w5.heap.size w5 W) => (own_row hov).keep hW)
    have HG5 := Lib.hid (fun W (hW : Below w5.heap.size w5 W) => hG.below hW)
    obtain ⟨ao, co, rfl, _, _⟩ := own_shape hov
    clear hov hG hSn hb35 HC4 HC5 hw4
    go_wp2_with fail
    refine HR5.out.mono ?_
    rintro e w6 ⟨⟨xv, pv, T, rfl, hR, hTn, hpv⟩, hb6⟩
    obtain ⟨xp, rfl⟩ : ∃ p, xv = .pointer (some ⟨p, 0, none⟩) := by obtain ⟨p, u, h⟩ := hR; exact ⟨p, h.val⟩
    have HB6 := Lib.hid (bb_step HB5.out hb6)
    have HL6 := Lib.hid hb6
    have HP6 := Lib.hid (fun W (hW : Below w6.heap.size w6 W) => (own_row hpv).keep hW)
    have HR6 := Lib.hid (fun W (hW : Below w6.heap.size w6 W) => hR.below hW)
    have HSI := Lib.hid (sameInts_yes _ _ outs outs w6 (HO5.out _ HL6.out) (HP6.out _ (Below.refl _ _)) rfl)
    obtain ⟨ap, cp, rfl, _, _⟩ := own_shape hpv
    clear hpv hR hTn hb6 k0 k1 k2 hb5 HR5
    generalize hol8 : outs.length = lo at *
    have HOL8 := Lib.hid hol8
    clear hol8
    go_wp2_with fail
    refine HSI.out.mono ?_
    rintro e w7 ⟨rfl, hb7⟩
    have HL7 := Lib.hid (HL6.out.trans (hb7.mono HL6.out.size))
    have HB7 := Lib.hid (bb_step HB6.out hb7)
    have HCI := Lib.hid (gcirc_any w7 (HG5.out _ HL7.out) _ outs (HO5.out _ HL7.out) (by have := HOL.out; rw [HOL8.out]; omega))
    have HR7 := Lib.hid (HR6.out _ hb7)
    have HP7 := Lib.hid (HP6.out _ hb7)
    clear hb7 HSI
    unfold CirPost circV at HCI
    go_wp2_with fail
    refine HCI.out.mono ?_
    rintro e w8 ⟨⟨u8, v8, rfl, hu8, hv8⟩, hb8⟩
    have HL8 := Lib.hid (HL7.out.trans (hb8.mono HL7.out.size))
    have HB8 := Lib.hid (bb_step HB7.out hb8)
    have HCR := Lib.hid (rcirc_any w8 (HR7.out.below hb8) _ outs (HP7.out.keep hb8) (by have := HOL.out; rw [HOL8.out]; omega))
    have HU8 := Lib.hid (fun W (hW : Below w8.heap.size w8 W) => (own_prow hu8).keep hW)
    have HV8 := Lib.hid (fun W (hW : Below w8.heap.size w8 W) => (own_row hv8).keep hW)
    obtain ⟨a8, c8, rfl, _, _⟩ := row_shape hu8
    obtain ⟨b8, d8, rfl, _, _⟩ := row_shape hv8
    clear hu8 hv8 hb8 HCI HR7 HP7
    unfold CirPost circV at HCR
    go_wp2_with fail
    refine HCR.out.mono ?_
    rintro e w9 ⟨⟨u9, v9, rfl, hu9, hv9⟩, hb9⟩
    have HL9 := Lib.hid (HL8.out.trans (hb9.mono HL8.out.size))
    have HB9 := Lib.hid (bb_step HB8.out hb9)
    have HSC := Lib.hid (sameCir_yes (g.n : Int) _ _ _ _ g.ands outs w9 (HU8.out _ hb9) (HV8.out _ hb9) (own_prow hu9) (own_row hv9))
    obtain ⟨a9, c9, rfl, _, _⟩ := row_shape hu9
    obtain ⟨b9, d9, rfl, _, _⟩ := row_shape hv9
    clear hu9 hv9 hb9 HCR HU8 HV8
    unfold circV at HSC
    go_wp2_with fail
    refine HSC.out.mono ?_
    rintro e w10 ⟨rfl, hb10⟩
    have HL10 := Lib.hid (HL9.out.trans (hb10.mono HL9.out.size))
    have HB10 := Lib.hid (bb_step HB9.out hb10)
    have HCJ := Lib.hid (gcirc_any w10 (HG5.out _ HL10.out) _ outs (HO5.out _ HL10.out) (by have := HOL.out; rw [HOL8.out]; omega))
    clear hb10 HSC
    unfold CirPost circV at HCJ
    go_wp2_with fail
    refine HCJ.out.mono ?_
    rintro e w11 ⟨⟨u11, v11, rfl, hu11, hv11⟩, hb11⟩
    have HL11 := Lib.hid (HL10.out.trans (hb11.mono HL10.out.size))
    have HB11 := Lib.hid (bb_step HB10.out hb11)
    have HU11 := Lib.hid (fun W (hW : Below w11.heap.size w11 W) => (own_prow hu11).keep hW)
    have HV11 := Lib.hid (fun W (hW : Below w11.heap.size w11 W) => (own_row hv11).keep hW)
    obtain ⟨a11, c11, rfl, _, _⟩ := row_shape hu11
    obtain ⟨b11, d11, rfl, _, _⟩ := row_shape hv11
    rw [HOL8.out] at HV11
    have HA12 : Hid (Below w11.heap.size w11 (w11.alloc (.cells #[.int .i64 (g.n : Int), .slice a11 g.ands.length c11, .slice b11 lo d11] 43))) := (Below.refl _ _).alloc (Nat.le_refl _) _
    have HB12 := Lib.hid (bb_step HB11.out HA12.out)
    have HBX3 := Lib.hid (fun W hW => cirC_box w11 W (g.n : Int) (.slice a11 g.ands.length c11) (.slice b11 lo d11) hW)
    unfold CirC at HBX3
    have HZ12 : Hid ((w11.alloc (.cells #[.int .i64 (g.n : Int), .slice a11 g.ands.length c11, .slice b11 lo d11] 43)).heap.size = w11.heap.size + 1) := by unfold Hid; simp
    rw [← HZ12.out] at HBX3
    have HC12 := Lib.hid (gbuild_ok A g.n (.slice a11 g.ands.length c11) (.slice b11 lo d11) g.ands outs _ (HS.out _ (HW.out _ HB12.out)) (HU11.out _ HA12.out) (HV11.out _ HA12.out) (by have := HOL.out; rw [HOL8.out]; omega) h6 h7 h1)
    rw [h2, h3] at HC12
    unfold circV at HC12
    clear hu11 hv11 hb11 HCJ h1 h2 h3 h6 h7
    rw [HOL8.out]
    go_wp2_with fail
    refine HC12.out.mono ?_
    rintro e w13 ⟨⟨hv, qv, S2, rfl, hG2, hS2n, hqv⟩, hb13⟩
    obtain ⟨hp, rfl⟩ : ∃ p, hv = .pointer (some ⟨p, 0, none⟩) := by obtain ⟨p, m, u, N, D, h⟩ := hG2; exact ⟨p, h.val⟩
    generalize hw12 : w11.alloc (.cells #[.int .i64 (g.n : Int), .slice a11 g.ands.length c11, .slice b11 lo d11] 43) = w12 at *
    have HB13 := Lib.hid (bb_step HB12.out hb13)
    have HL13 := Lib.hid ((HL11.out.trans (HA12.out.mono HL11.out.size)).trans (hb13.mono (Nat.le_trans HL11.out.size HA12.out.size)))
    have HQ13 : Hid (∀ W, Below w13.heap.size w13 W → (W.cell? ⟨w11.heap.size, 0, none⟩ = some (.int .i64 (g.n : Int)) ∧ W.cell? ⟨w11.heap.size, 1, none⟩ = some (.slice a11 g.ands.length c11) ∧ W.cell? ⟨w11.heap.size, 2, none⟩ = some (.slice b11 lo d11)) ∧ Row W qv outs ∧ Row W (.slice ao lo co) outs ∧ PRow W (.slice a11 g.ands.length c11) g.ands ∧ Row W (.slice b11 lo d11) outs ∧ GrM W A (.pointer (some ⟨hp, 0, none⟩)) S2 g ∧ Below w0.heap.size w0 W) := fun W hW => by
      obtain ⟨hc, hb11⟩ := HBX3.out W (bb_step hb13 hW)
      exact ⟨hc, (own_row hqv).keep hW, HO5.out _ (bb_step HL13.out hW), HU11.out _ hb11, HV11.out _ hb11, hG2.below hW, bb_step HB13.out hW⟩
    obtain ⟨aq, cq, rfl, _, _⟩ := own_shape hqv
    have HSI15 := Lib.hid (fun W (hW : Below w13.heap.size w13 W) => sameInts_yes _ _ outs outs W (HQ13.out W hW).2.1 (HQ13.out W hW).2.2.1 rfl)
    have HCI15 := Lib.hid (fun W (hW : Below w13.heap.size w13 W) => gcirc_any W (HQ13.out W hW).2.2.2.2.2.1 _ outs (HQ13.out W hW).2.1 (by have := HOL.out; rw [HOL8.out]; omega))
    have HSC15 := Lib.hid (fun W (hW : Below w13.heap.size w13 W) u2 v2 h1 h2 => sameCir_yes (g.n : Int) u2 v2 _ _ g.ands outs W h1 h2 (HQ13.out W hW).2.2.2.1 (HQ13.out W hW).2.2.2.2.1)
    have hV0 : Below w13.heap.size w13 w13.drew := (Below.refl _ _).drew
    rw [HOL8.out] at HSI15 HCI15
    unfold CirPost circV at HCI15
    unfold circV at HSC15
    clear hqv hG2 hS2n hb13 hw12
    rw [HOL8.out]
    go_wp2_with fail
    go_region_held3 (fun W => W.cell? ⟨w11.heap.size, 0, none⟩ = some (.int .i64 (g.n : Int)) ∧ W.cell? ⟨w11.heap.size, 1, none⟩ = some (.slice a11 g.ands.length c11) ∧ W.cell? ⟨w11.heap.size, 2, none⟩ = some (.slice b11 lo d11)) (first | exact (HQ13.out _ hV0).1 | exact (HQ13.out _ hVS).1 | exact (HQ13.out _ hVT).1 | exact (HQ13.out _ hVU).1) (first
      | (go_at_call 44; refine (HSI15.out _ hV0).mono ?_; rintro e wS ⟨rfl, hbS⟩; have hVS := bb_step hV0 hbS; clear hbS)
      | (go_at_call 27; refine (HCI15.out _ hVS).mono ?_; rintro e wT ⟨⟨u15, v15, rfl, hu15, hv15⟩, hbT⟩; have hVT := bb_step hVS hbT; have HSCT := Lib.hid (HSC15.out _ hVT _ _ (own_prow hu15) (own_row hv15)); obtain ⟨a15, c15, rfl, _, _⟩ := row_shape hu15; obtain ⟨b15, d15, rfl, _, _⟩ := row_shape hv15; clear hu15 hv15 hbT)
      | (go_at_call 26; refine HSCT.out.mono ?_; rintro e wU ⟨rfl, hbU⟩; have hVU := bb_step hVT hbU; clear hbU))
    all_goals
      have HBU := Lib.hid (HQ13.out _ hVU).2.2.2.2.2.2
      clear hV0 hVS hVT hVU
      obtain ⟨k0, k1, k2⟩ := HX.out _ HBU.out
      have HGU := Lib.hid (HGB.out _ (HW.out _ HBU.out))
      go_wp2_with fail
      refine HGU.out.mono ?_
      rintro e w17 ⟨⟨p17, o17, rfl⟩, hb17⟩
      have hV0 : Below w0.heap.size w0 w17.drew := bb_step (bb_step HBU.out hb17) (Below.refl _ _).drew
      clear k0 k1 k2 hb17
      go_wp2_with fail
      go_region_held3 (fun W => W.cell? ⟨w.heap.size, 0, none⟩ = some (.int .i64 n) ∧ W.cell? ⟨w.heap.size, 1, none⟩ = some (.slice a0 m0 c0) ∧ W.cell? ⟨w.heap.size, 2, none⟩ = some (.slice a1 m1 c1)) (first | exact HX.out _ hV0 | exact HX.out _ hVK | exact HX.out _ hVR) (first
        | (go_at_call 38; refine (HCO.out _ (HW.out _ hV0)).mono ?_; rintro e wK ⟨rfl, hbK⟩; have hVK := bb_step hV0 hbK; clear hbK)
        | (go_at_call 40; refine (HRC.out _ (HW.out _ hVK)).mono ?_; rintro e wR ⟨rfl, hbR⟩; have hVR := bb_step hVK hbR; clear hbR))
      all_goals
        go_wp2_with fail
        go_ret
        exact ⟨rfl, HW.out _ hVR⟩
end Go.Proofs.YtbighmmjmklioaaDoor
