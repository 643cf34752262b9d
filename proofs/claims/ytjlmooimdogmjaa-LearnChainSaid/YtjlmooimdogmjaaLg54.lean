/- The walk of skolemlaw16.LearnChain. Conditions: the arguments read as 64-bit ints. -/
import Derived.Test.YtjlmooimdogmjaaLg44
import Derived.Test.YtjlmooimdogmjaaLg47
import Derived.Test.YtjlmooimdogmjaaLg53
import Derived.BigQuiet
set_option linter.unusedVariables false
set_option linter.unusedSimpArgs false
set_option linter.unusedVariables false
set_option linter.unusedSimpArgs false
namespace Go.Proofs.Ytjlmooimdogmjaa
open Go.RowKit

theorem row_two (W : World) (a b : Int) : Row (W.alloc (.cells #[.int .i64 a, .int .i64 b] 3)) (.slice (some ⟨W.heap.size, 0, none⟩) 2 2) [a, b] := by
  refine ⟨_, 2, rfl, Nat.le_refl _, by unfold maxLen; omega, .inr ⟨W.heap.size, 0, rfl, ?_, fun j hj => ?_⟩⟩
  · rw [show (W.alloc (.cells #[.int .i64 a, .int .i64 b] 3)).heap.size = W.heap.size + 1 from Array.size_push _]; exact Nat.lt_succ_self _
  · unfold World.cell?
    rw [show (W.alloc (.cells #[.int .i64 a, .int .i64 b] 3)).heap[W.heap.size]? = _ from heap_alloc_new W _]
    match j, hj with
    | 0, _ => rfl
    | 1, _ => rfl

set_option maxRecDepth 8000 in
set_option maxHeartbeats 8000000 in
theorem lawLk (kn kf : Int) (w : World) (h1 : -9223372036854775808 ≤ kn) (h2 : kn ≤ 9223372036854775807) (h3 : -9223372036854775808 ≤ kf) (h4 : kf ≤ 9223372036854775807) :
    Calls Try.prog 6 #[.int .i64 kn, .int .i64 kf] w fun e w' => e = .returned (.bool true) ∧ Below w.heap.size w w' := by
  have HN1 := Lib.hid (fun V => number_any kn 20 V (by decide) (by decide) h1 h2)
  obtain ⟨N, hN, hN2, hN21⟩ : ∃ N : Nat, kn % 20 + 2 = (N : Int) ∧ 2 ≤ N ∧ N ≤ 21 := ⟨(kn % 20 + 2).toNat, by omega, by omega, by omega⟩
  have hkm : kn % 20 = (N : Int) - 2 := by omega
  rw [hkm] at HN1
  have HN2 := Lib.hid (fun V => number_any kf (N : Int) V (by omega) (by omega) h3 h4)
  have hm1 := Int.emod_nonneg kf (show (N : Int) ≠ 0 by omega)
  have hm2 := Int.emod_lt_of_pos kf (show (0 : Int) < (N : Int) by omega)
  obtain ⟨A, hA, hA1, hA2⟩ : ∃ A : Nat, kf % (N : Int) = (A : Int) - 1 ∧ 1 ≤ A ∧ A ≤ N := ⟨(kf % (N : Int) + 1).toNat, by omega, by omega, by omega⟩
  rw [hA] at HN2
  have HNW := Lib.hid (fun V => pnew_any V ((N : Int) + 1) (by omega) (by omega))
  have e1 : (N : Int) - 2 + 2 = (N : Int) := by omega
  have e2 : (A : Int) - 1 + 1 = (A : Int) := by omega
  clear h1 h2 h3 h4 hN hkm hm1 hm2 hA
  go_enter Try.func6, Try.ntmps6
  go_wp2_with fail
  refine (first16_any _).mono ?_
  rintro e w1 ⟨rfl, hb⟩
  have HB1 := Lib.hid hb
  clear hb
  go_wp2_with fail
  refine (HN1.out _).mono ?_
  rintro e w' ⟨rfl, rfl⟩
  go_wp2_with fail
  refine (HN2.out _).mono ?_
  rintro e w' ⟨rfl, rfl⟩
  go_wp2_with fail
  refine (HNW.out _).mono ?_
  rintro e w2 ⟨v, S, rfl, hs, hS, hb2⟩
  have hp2 : PT w1 (fun _ => False) v (newP ((N : Int) + 1)) w2 := PSt.pt ⟨S, hs, hb2, hS⟩
  obtain ⟨q, rfl⟩ := hp2.ptr
  have HP2 := Lib.hid hp2
  have HJ2 : Hid (ChJ N 1 (newP ((N : Int) + 1))) := ChJ.start (by omega)
  clear hs hS hb2 hp2 HN1 HN2 HNW
  go_wp2_with fail
  go_loopw [7] (fun iv W => ∃ (j : Nat) (p : Pr), 1 ≤ j ∧ j ≤ N ∧ iv = .int .i64 (j : Int) ∧ PT w1 (fun _ => False) (.pointer (some ⟨q, 0, none⟩)) p W ∧ ChJ N j p) (fun iv _ => N - (intOf iv).toNat)
  case atStart => exact ⟨1, _, Nat.le_refl _, by omega, rfl, HP2.out, HJ2.out⟩
  case round =>
    obtain ⟨j, p, hj1, hj, rfl, hP, hJ⟩ := hrel
    have HP := Lib.hid hP
    have HJ := Lib.hid hJ
    clear hP hJ HP2 HJ2
    by_cases hlt : j < N
    · as_aux_lemma =>
      have HAD : Hid (∀ u V, Below wr.heap.size wr V → Row V u [-(j : Int), (j : Int) + 1] → Calls Try.prog 18 #[.pointer (some ⟨q, 0, none⟩), u] V fun e w' => ∃ (y : Int) (b : Bool) (p' : Pr), AddR p [-(j : Int), (j : Int) + 1] b p' ∧ (b = true → y = (p.cl.length : Int)) ∧ e = .returned (.tuple #[.int .i64 y, .bool b]) ∧ PT w1 (fun _ => False) (.pointer (some ⟨q, 0, none⟩)) p' w' ∧ Kp (fun _ => False) V w') := fun u V hV hu => pt_add (HP.out.keep hV) u _ hu (by intro x hx; simp at hx; omega) (by simp) (by have := HJ.out.len; omega)
      go_wp2_with fail
      refine (HAD.out _ _ ((Below.refl _ _).alloc (Nat.le_refl _) _) (row_two wr _ _)).mono ?_
      rintro e w3 ⟨y, b, p', hA, _, rfl, hP3, _⟩
      have HP3 := Lib.hid hP3
      have HJ3 := Lib.hid (HJ.out.add hj1 hlt hA).2
      clear hA hP3 HAD
      go_wp2_with fail
      go_roundw
      case rel => exact ⟨j + 1, p', by omega, by omega, by go_num, HP3.out, HJ3.out⟩
      case measure => go_light; simp [intOf]; omega
    · have d1 : decide ((j : Int) < (N : Int)) = false := decide_eq_false (by omega)
      have d2 : decide (j < N) = false := decide_eq_false hlt
      have hjN : j = N := by omega
      subst hjN
      have HAD : Hid (∀ u V, Below wr.heap.size wr V → Row V u [-(j : Int), (j : Int) + 1] → Calls Try.prog 18 #[.pointer (some ⟨q, 0, none⟩), u] V fun e w' => ∃ (y : Int) (b : Bool) (p' : Pr), AddR p [-(j : Int), (j : Int) + 1] b p' ∧ (b = true → y = (p.cl.length : Int)) ∧ e = .returned (.tuple #[.int .i64 y, .bool b]) ∧ PT w1 (fun _ => False) (.pointer (some ⟨q, 0, none⟩)) p' w' ∧ Kp (fun _ => False) V w') := fun u V hV hu => pt_add (HP.out.keep hV) u _ hu (by intro x hx; simp at hx; omega) (by simp) (by have := HJ.out.len; omega)
      clear hlt hj
      go_wp2_with fail
      refine (HAD.out _ _ ((Below.refl _ _).alloc (Nat.le_refl _) _) (row_two wr _ _)).mono ?_
      rintro e w3 ⟨y, b, p3, hA3, _, rfl, hP3, _⟩
      have HP3 := Lib.hid hP3
      have HA3 := Lib.hid hA3
      have hl3 : p3.cl.length ≤ 100 := by
        have := HJ.out.len
        rcases hA3 with ⟨_, _, c, _, rfl⟩ | ⟨_, _, rfl⟩
        · show (p.cl ++ [some c]).length ≤ 100
          simp; omega
        · omega
      have HAE : Hid (∀ u V, Below w3.heap.size w3 V → Row V u [-(j : Int), -(j : Int) - 1] → Calls Try.prog 18 #[.pointer (some ⟨q, 0, none⟩), u] V fun e w' => ∃ (y : Int) (b : Bool) (p' : Pr), AddR p3 [-(j : Int), -(j : Int) - 1] b p' ∧ (b = true → y = (p3.cl.length : Int)) ∧ e = .returned (.tuple #[.int .i64 y, .bool b]) ∧ PT w1 (fun _ => False) (.pointer (some ⟨q, 0, none⟩)) p' w' ∧ Kp (fun _ => False) V w') := fun u V hV hu => pt_add (HP3.out.keep hV) u _ hu (by intro x hx; simp at hx; omega) (by simp) (by omega)
      clear hA3 hP3 hl3 HAD
      go_wp2_with fail
      refine (HAE.out _ _ ((Below.refl _ _).alloc (Nat.le_refl _) _) (row_two w3 _ _)).mono ?_
      rintro e w4 ⟨y4, b4, p4, hA4, _, rfl, hP4, _⟩
      have HP4 := Lib.hid hP4
      obtain ⟨hC4, hn4, ht4, hst4, hl4⟩ := HJ.out.done hj1 HA3.out hA4
      have HC4 := Lib.hid hC4
      have HPR := Lib.hid (pt_prop hP4 (by omega))
      clear hA4 hP4 HAE hC4 HA3 HP3 HJ HP
      go_wp2_with fail
      refine HPR.out.mono ?_
      rintro e w5 ⟨x5, p5, hR5, rfl, hP5, _⟩
      obtain ⟨rfl, ht5, hst5, hcd5⟩ := HC4.out.quiet ht4 hst4 hR5
      have hn5 : p5.n = j + 1 := hR5.1.trans hn4
      have hcl5 : p5.cl = p4.cl := hR5.2.1
      have hC5 : ChC j (clsP p5) := by rw [clsP_eq hcl5]; exact HC4.out
      have HC5 := Lib.hid hC5
      have HP5 := Lib.hid hP5
      have HDC := Lib.hid (pt_dec hP5 (A : Int) (by omega) (by omega))
      rw [ChC.decOk hn5 ht5 hA1 hA2] at HDC
      have HW5 := Lib.hid hP5.wf
      have hcd : (decdP p5 (A : Int)).cl = p5.cl := by unfold decdP; split <;> rfl
      clear hP5 hR5 HPR HC4 hC5
      go_wp2_with fail
      refine HDC.out.mono ?_
      rintro e w6 ⟨rfl, hP6, _⟩
      have HPR := Lib.hid (pt_prop hP6 (by rw [hcd, hcl5]; omega))
      clear HDC
      go_wp2_with fail
      refine HPR.out.mono ?_
      rintro e w7 ⟨x7, p7, hR7, rfl, hP7, _⟩
      obtain ⟨⟨k, c, rfl, hk7, hf7, hcm7, hne7⟩, hst7, h07, hcs7, hcl7, hn7, hlv7⟩ := ChC.second HW5.out HC5.out hn5 ht5 hst5 hcd5 hA1 hA2 hR7
      have HP7 := Lib.hid hP7
      have HFR := Lib.hid (hP7.use fun S hS => from_any w7 hS (by rw [hcl7, hcl5]; omega) k c hk7 hf7 hne7 (by rw [hst7]; simp))
      have hC7 : ChC j (clsP p7) := by rw [hcs7]; exact HC5.out
      have HLS : Hid (∀ u r, LesR p7 c u r → r = [] ∧ ∃ v : Nat, A ≤ v ∧ v ≤ j ∧ u = -(v : Int)) := fun u r hL => ChC.les hP7.wf hC7 hA1 hA2 hst7 h07 hcm7 hf7 hL (top_last hP7.wf hlv7 (by rw [hst7]; simp) hcm7 hf7)
      have HC7 := Lib.hid hC7
      have HN7 : Hid (p7.n = j + 1) := hn7.trans hn5
      have HL7 : Hid (p7.cl.length = j + 1) := by unfold Hid; rw [hcl7, hcl5]; exact hl4
      clear hP7 hR7 hP6 HPR HP5 HC5 hC7 hk7 hf7 hcm7 hne7 hst7 h07 hcs7 hcl7 hn7 hlv7
      go_wp2_with fail
      refine HFR.out.mono ?_
      rintro e w8 ⟨u, r, cl, sv, rfl, hrow, ⟨sa, sn, sc, rfl⟩, hL, hb8⟩
      obtain ⟨rfl, v, hv1, hv2, rfl⟩ := HLS.out u r hL
      have htp : topL p7 [] = 0 := rfl
      have hdd : ((ddL (List.map (fun l => levP p7 (plc l : Int)) [-(v : Int)])).length : Int) = 1 := rfl
      rw [htp, hdd]
      have HLB := Lib.hid (LsB.new (T := fun _ => False) (bk := 0) (sc := 1) (sv := .slice sa sn sc) hb8 hrow)
      have hb9 : Below w7.heap.size w7 (w8.alloc (.cells #[cl, .int .i64 0, .int .i64 1, .slice sa sn sc] 29)) := hb8.alloc hb8.size _
      have HPT := Lib.hid (HP7.out.more hb9 (U := fun i => False ∨ NewB w7 (w8.alloc (.cells #[cl, .int .i64 0, .int .i64 1, .slice sa sn sc] 29)) i) fun i hi => hi)
      have HAF := Lib.hid hL.allF
      have hsz9 : (w8.alloc (.cells #[cl, .int .i64 0, .int .i64 1, .slice sa sn sc] 29)).heap.size = w8.heap.size + 1 := Array.size_push _
      obtain ⟨la, lc, rfl, _, hlc, _⟩ := hrow
      unfold maxLen at hlc
      have hl1 : ([-(v : Int)] : List Int).length = 1 := rfl
      rw [hl1] at HLB HPT hb9 hsz9 ⊢
      clear hL hb8 hb9 hsz9 htp hdd HFR HLS HP7
      obtain ⟨a9, c9, e9, _, _, hx9⟩ := HLB.out.row
      injection e9 with e91 e92 e93
      subst e91; subst e93
      clear e92
      obtain ⟨b2, off2, rfl, _, _, hcell2⟩ := hx9.resolve_left (by simp)
      have y2 := hcell2 0 (by simp)
      rw [Nat.add_zero, show ([-(v : Int)] : List Int).getD 0 0 = -(v : Int) from rfl] at y2
      have HSH := Lib.hid (HPT.out.use fun S hS => shorten_any _ hS (by rw [HL7.out]; omega) (.slice (some ⟨b2, off2, none⟩) 1 lc) [-(v : Int)] HLB.out.row HPT.out.tlt HAF.out (by simp) (by simp))
      go_upto_region 19 with fail
      generalize hw9 : w8.alloc (.cells #[.slice (some ⟨b2, off2, none⟩) 1 lc, .int .i64 0, .int .i64 1, .slice sa sn sc] 29) = w9 at *
      generalize (fun i => False ∨ NewB w7 w9 i) = U at *
      generalize w8.heap.size = G at *
      clear hw9 hcell2 hx9 hl1
      have c0 := HLB.out.c0
      have c1 := HLB.out.c1
      have c2 := HLB.out.c2
      go_wp2_with fail
      refine HSH.out.mono ?_
      rintro e w10 ⟨s10, y, rfl, hs10, hY, hb10⟩
      obtain rfl : y = [-(v : Int)] := by
        obtain ⟨r, e⟩ := hY.2.2.1 (by simp)
        have h1 := hY.2.1
        rw [e] at h1 ⊢
        simp at h1
        rw [h1]; rfl
      have HPT10 := Lib.hid (HPT.out.more hb10 (U := fun i => U i ∨ NewB w9 w10 i) fun i hi => hi)
      have hL10 := HLB.out.keep (Kp.below hb10 HPT.out.tlt)
      have HLB10 : Hid (LsB w10 (fun i => U i ∨ NewB w9 w10 i) G (.slice (some ⟨b2, off2, none⟩) 1 lc) 0 1 (.slice sa sn sc) [-(v : Int)]) := ⟨hL10.c0, hL10.c1, hL10.c2, .inl hL10.uG, hL10.row.sub fun i hi => .inl hi⟩
      have HS10 := Lib.hid (hs10.sub (U := fun i => U i ∨ NewB w9 w10 i) fun i hi => .inr hi)
      generalize (fun i => U i ∨ NewB w9 w10 i) = U2 at *
      obtain ⟨ya, yc, rfl, _, hyc, _⟩ := hs10
      unfold maxLen at hyc
      have hl1 : ([-(v : Int)] : List Int).length = 1 := rfl
      rw [hl1] at HS10 ⊢
      have HBK := Lib.hid (pt_back HPT10.out 0 (by decide) (by decide))
      have hbc : (backP p7 0).cl = p7.cl ∧ (backP p7 0).n = p7.n := by unfold backP; split <;> exact ⟨rfl, rfl⟩
      clear hY hb10 hL10 hl1 HSH c0 c1 c2 y2
      go_wp2_with fail
      refine HBK.out.mono ?_
      rintro e w11 ⟨rfl, hP11, hk11⟩
      have HK11 := Lib.hid hk11
      have HLB11 := Lib.hid (HLB10.out.keep hk11)
      have HAD := Lib.hid (pt_add hP11 (.slice (some ⟨b2, off2, none⟩) 1 lc) [-(v : Int)] HLB11.out.row.row (by intro x hx; simp at hx; omega) (by simp) (by rw [hbc.1, HL7.out]; omega))
      have c0 := HLB11.out.c0
      clear hP11 hk11 HBK
      go_wp2_with fail
      refine HAD.out.mono ?_
      rintro e w12 ⟨y12, b12, p12, hA, _, rfl, hP12, hk12⟩
      have hok : addOk (backP p7 0).n [-(v : Int)] = true := by
        rw [hbc.2, HN7.out]
        have h1 := plc_natC v
        unfold addOk
        refine decide_eq_true fun x hx => ?_
        simp at hx
        subst hx
        exact ⟨by rw [h1.2]; omega, by simp; omega⟩
      obtain ⟨cc, hcc, rfl⟩ : ∃ cc, NrmP [-(v : Int)] cc ∧ p12 = addP (backP p7 0) cc := by
        rcases hA with ⟨_, _, c, h1, h2⟩ | ⟨_, h0, _⟩
        · exact ⟨c, h1, h2⟩
        · rw [hok] at h0; exact absurd h0 (by decide)
      have HPR := Lib.hid (pt_prop hP12 (by show ((backP p7 0).cl ++ [some cc]).length ≤ 1000; rw [List.length_append, hbc.1, HL7.out]; simp; omega))
      have HK12 := Lib.hid hk12
      clear hA hP12 hk12 HAD c0
      go_wp2_with fail
      refine HPR.out.mono ?_
      rintro e w13 ⟨x13, p13, hR13, rfl, hP13, hk13⟩
      obtain ⟨rfl, hv13⟩ := HC7.out.last hA1 hv1 hv2 hcc hR13
      have hk : Kp U2 w10 w13 := (HK11.out.trans HK12.out).trans hk13
      have hLB13 := HLB10.out.keep hk
      have c0 := hLB13.c0
      obtain ⟨a9, c9, e9, _, _, hx9⟩ := hLB13.row
      injection e9 with e91 e92 e93
      subst e91; subst e93
      clear e92
      obtain ⟨b', o', e', _, _, hcell2⟩ := hx9.resolve_left (by simp)
      injection e' with e'
      injection e' with e'1 e'2
      subst e'1; subst e'2
      have y2 := hcell2 0 (by simp)
      rw [Nat.add_zero, show ([-(v : Int)] : List Int).getD 0 0 = -(v : Int) from rfl] at y2
      obtain ⟨a8, c8, e8, _, _, hx8⟩ := HS10.out.keep hk
      injection e8 with e81 e82 e83
      subst e81; subst e83
      clear e82
      obtain ⟨b3, off3, rfl, _, _, hcell3⟩ := hx8.resolve_left (by simp)
      have y3 := hcell3 0 (by simp)
      rw [Nat.add_zero, show ([-(v : Int)] : List Int).getD 0 0 = -(v : Int) from rfl] at y3
      have HVV : Hid (∀ t, Calls Try.prog 11 #[.pointer (some ⟨q, 0, none⟩), .int .i64 (A : Int)] (w13.drewN t) fun e w' => e = .returned (.int .i64 2) ∧ w13.drewN t = w') := fun t => by
        have := hP13.use fun S hS => pval_any (w13.drewN t) (hS.below (below_draws ⟨t, rfl⟩)) (A : Int) (by omega) (by omega)
        rwa [hv13] at this
      have HIS : Hid (∀ V, Calls Try.prog 22 #[.int .i64 (v : Int), .int .i64 ((j : Int) + 1)] V fun e w' => e = .returned (.bool true) ∧ V = w') := fun V => by
        have := refIs_any (v : Int) ((j : Int) + 1) V (by omega) (by omega) (by omega) (by omega)
        have hpu := plc_absI (v : Int)
        rw [(plc_natC v).1] at hpu
        rw [show isB ((j : Int) + 1) (v : Int) = true by
          unfold isB
          rw [← hpu]
          simp
          omega] at this
        exact this
      have HBE : Hid (Below w.heap.size w w13) := HB1.out.trans (hP13.bel.mono HB1.out.size)
      have g1 : decide ((A : Int) ≤ (v : Int)) = true := decide_eq_true (by omega)
      have g2 : decide ((v : Int) ≤ (j : Int)) = true := decide_eq_true (by omega)
      have g3 : decide (A ≤ v) = true := decide_eq_true hv1
      have g4 : decide (v ≤ j) = true := decide_eq_true hv2
      have g5 : (-(v : Int) == -(v : Int)) = true := by simp
      clear hk hLB13 hx9 hx8 hcell2 hcell3 hR13 hP13 hk13 hcc hok hbc HPR hv13
      go_wp2_with fail
      go_quiet (first
        | (go_at_call 11; refine (HVV.out _).mono ?_; rintro e w' ⟨rfl, rfl⟩; exact ⟨rfl, _, rfl⟩)
        | (go_at_call 22; refine (HIS.out _).mono ?_; rintro e w' ⟨rfl, rfl⟩; exact ⟨rfl, _, rfl⟩))
      go_wp2_with fail
      go_ret
      exact ⟨rfl, HBE.out.trans ((below_draws ⟨_, rfl⟩).mono HBE.out.size)⟩
end Go.Proofs.Ytjlmooimdogmjaa
