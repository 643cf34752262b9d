/- The law GraphWorth: true for whatever arguments. Conditions: the slices read as 64-bit ints; the two errors lie as 'Sents2' says. -/
import Derived.Test.YtbighmmjmklioaaDoorBwP
import Derived.Test.YtbighmmjmklioaaDoorGsV
namespace Go.Proofs.YtbighmmjmklioaaDoor
open Go.RowKit

set_option maxRecDepth 8000 in
set_option maxHeartbeats 2000000 in
theorem lawGv_out (A : Nat → Addr) (a2 : Option Addr) (c2 m2 : Nat) (a3 : Option Addr) (c3 m3 : Nat) (n : Int) (w : World) (hS : Sents2 w A) (ho : 120 < m2 ∨ 20 < m3) :
    Calls Tryd.prog 8 #[.slice a2 m2 c2, .slice a3 m3 c3, .int .i64 n] w fun e w' => e = .returned (.bool true) ∧ Below w.heap.size w w' := by
  have HF := Lib.hid (first8_any A w hS)
  clear hS
  by_cases d1 : 120 < m2
  · have d1' : decide (120 < m2) = true := decide_eq_true d1
    clear ho
    go_enter Tryd.func8, Tryd.ntmps8
    go_wp2_with fail
    refine HF.out.mono ?_
    rintro e w1 ⟨rfl, hb1⟩
    go_wp2_with fail
    go_ret
    exact ⟨rfl, hb1⟩
  · have d1' : decide (120 < m2) = false := decide_eq_false d1
    have d2 : 20 < m3 := by omega
    have d2' : decide (20 < m3) = true := decide_eq_true d2
    clear ho
    go_enter Tryd.func8, Tryd.ntmps8
    go_wp2_with fail
    refine HF.out.mono ?_
    rintro e w1 ⟨rfl, hb1⟩
    go_wp2_with fail
    go_ret
    exact ⟨rfl, hb1⟩

set_option maxRecDepth 8000 in
set_option maxHeartbeats 8000000 in
theorem lawGv_any (A : Nat → Addr) (a2 : Option Addr) (c2 : Nat) (ls : List Int) (a3 : Option Addr) (c3 : Nat) (ts : List Int) (n : Int) (w : World) (hS : Sents2 w A) (hl : RowAt w a2 c2 ls) (hlb : ∀ y ∈ ls, in64 y) (ht : RowAt w a3 c3 ts) (htb : ∀ y ∈ ts, in64 y) (hn : in64 n) :
    Calls Tryd.prog 8 #[.slice a2 ls.length c2, .slice a3 ts.length c3, .int .i64 n] w fun e w' => e = .returned (.bool true) ∧ Below w.heap.size w w' := by
  by_cases hout : 120 < ls.length ∨ 20 < ts.length
  · exact lawGv_out A a2 c2 ls.length a3 c3 ts.length n w hS hout
  have d3 : decide (120 < ls.length) = false := decide_eq_false fun h => hout (.inl h)
  have d4 : decide (20 < ts.length) = false := decide_eq_false fun h => hout (.inr h)
  have e3 : ¬ 120 < ls.length := fun h => hout (.inl h)
  have e4 : ¬ 20 < ts.length := fun h => hout (.inr h)
  clear hout
  have HF := Lib.hid (first8_any A w hS)
  have HMK := Lib.hid (fun W (hW : Below w.heap.size w W) => mkc_any 12 (.slice a2 ls.length c2) (.slice a3 ts.length c3) ls ts W ⟨_, _, rfl, hl.keep hW⟩ ⟨_, _, rfl, ht.keep hW⟩ (by omega) (by omega) (by omega) hlb htb)
  have HS := Lib.hid (fun W (hW : Below w.heap.size w W) => hS.keep hW)
  have HVAL := Lib.hid (fun W => values_any n 12 W hn.1 hn.2 (by omega))
  have HTL : Hid (ts.length ≤ 20 ∧ ls.length ≤ 120) := by unfold Hid; omega
  clear hS hl hlb ht htb hn
  generalize ls.length = m2 at *
  generalize ts.length = m3 at *
  go_enter Tryd.func8, Tryd.ntmps8
  go_wp2_with fail
  refine HF.out.mono ?_
  rintro e w1 ⟨rfl, hb1⟩
  have HB1 := Lib.hid hb1
  have HM := Lib.hid (HMK.out _ hb1)
  clear hb1 HF HMK
  go_wp2_with fail
  refine HM.out.mono ?_
  rintro e w3 ⟨⟨u', v', ps', os', rfl, hu', hv', hck, hpl, hol, hpb, hob⟩, hb3⟩
  have HB3 := Lib.hid (bb_step HB1.out hb3)
  clear hb3 HM
  have HBX2 := Lib.hid (fun W hW => cirC_box w3 W (12 : Int) u' v' hW)
  unfold CirC at HBX2
  have HA4 : Hid (Below w3.heap.size w3 (w3.alloc (.cells #[.int .i64 12, u', v'] 43))) := (Below.refl _ _).alloc (Nat.le_refl _) _
  have HU := Lib.hid (fun W (hW : Below w3.heap.size w3 W) => hu'.keep hW)
  have HV := Lib.hid (fun W (hW : Below w3.heap.size w3 W) => hv'.keep hW)
  have HCK := Lib.hid hck
  obtain ⟨h1, h2, h3, h4, h5, h6, h7⟩ := build_twice 12 ps' os' hck
  have HB4 := Lib.hid (bb_step HB3.out HA4.out)
  have HC4 := Lib.hid (gbuild_ok A 12 u' v' ps' os' _ (HS.out _ HB4.out) (HU.out _ HA4.out) (HV.out _ HA4.out) (by have := HTL.out; omega) hpb hob hck)
  have HEQ := Lib.hid (fun ins => build_worth 12 ps' os' ins (check_zero8 hck).1)
  have hoL : (outsB 12 ps' os').length = m3 := by rw [h4]; exact hol
  have hgl : (buildB 12 ps').1.len ≤ 12 + ps'.length := (InvB.all 12 ps' (check_zero8 hck).1).len
  have HPL : Hid (ps'.length ≤ 120) := by unfold Hid; have := HTL.out; omega
  obtain ⟨au, cu, rfl, _⟩ := hu'
  obtain ⟨av, cv, rfl, _⟩ := hv'
  have HEV1 := Lib.hid (fun W q ins (hW : Below w3.heap.size w3 W) (hq : BRow W q ins) (hi : ins.length ≤ 1000) => eval_any 12 _ _ q ps' os' ins W (HU.out _ hW) (HV.out _ hW) hq hi (by have := HTL.out; omega) HCK.out)
  rw [hol] at HBX2 HA4 HV HC4 HB4 HEV1
  rw [show ((12 : Nat) : Int) = 12 from rfl] at HC4 HEV1 ⊢
  clear hck hpb hob h4 hpl
  rw [hol]
  clear hol
  have hm5 : ps'.length ≤ 1000 := by have := HPL.out; omega
  generalize ps'.length = m5 at *
  generalize outsB 12 ps' os' = outs at *
  generalize (buildB 12 ps').1 = g at *
  have HZ4 : Hid ((w3.alloc (.cells #[.int .i64 12, .slice au m5 cu, .slice av m3 cv] 43)).heap.size = w3.heap.size + 1) := by unfold Hid; simp
  rw [← HZ4.out] at HBX2
  unfold circV at *
  go_wp2_with fail
  refine HC4.out.mono ?_
  rintro e w5 ⟨⟨gv, ov, S, rfl, hG, hSn, hov⟩, hb5⟩
  obtain ⟨gp, rfl⟩ : ∃ p, gv = .pointer (some ⟨p, 0, none⟩) := by obtain ⟨p, m, u, N, D, h⟩ := hG; exact ⟨p, h.val⟩
  generalize hw4 : w3.alloc (.cells #[.int .i64 12, .slice au m5 cu, .slice av m3 cv] 43) = w4 at *
  have HQ5 : Hid (∀ W, Below w5.heap.size w5 W → (W.cell? ⟨w3.heap.size, 0, none⟩ = some (.int .i64 12) ∧ W.cell? ⟨w3.heap.size, 1, none⟩ = some (.slice au m5 cu) ∧ W.cell? ⟨w3.heap.size, 2, none⟩ = some (.slice av m3 cv)) ∧ Row W ov outs ∧ GrM W A (.pointer (some ⟨gp, 0, none⟩)) S g ∧ Below w.heap.size w W ∧ Below w3.heap.size w3 W) := fun W hW => by
    obtain ⟨hc, hb3⟩ := HBX2.out W (bb_step hb5 hW)
    exact ⟨hc, (own_row hov).keep hW, hG.below hW, bb_step (bb_step HB4.out hb5) hW, hb3⟩
  obtain ⟨ao, co, rfl, _, _⟩ := own_shape hov
  rw [hoL] at HQ5
  clear hov hG hSn hb5 hw4 HC4 HA4 HB4
  have hV0 : Below w5.heap.size w5 w5.drew := (Below.refl _ _).drew
  have HLE := Lib.hid (glen_any w5.drew (HQ5.out _ hV0).2.2.1)
  have hgl2 : (g.len : Int) ≤ 12 + (m5 : Int) := by omega
  have hgl3 : ¬ (12 : Int) + (m5 : Int) < (g.len : Int) := by omega
  have hne : ((m3 : Int) != (m3 : Int)) = false := by simp
  have hw12 : IntKind.i64.wrap ((12 : Int) + (m5 : Int)) = (12 : Int) + (m5 : Int) := IntWalk.i64_in _ (by omega)
  have hgl4 : decide ((12 : Int) + (m5 : Int) < (g.len : Int)) = false := decide_eq_false hgl3
  rw [hoL]
  have HOL := Lib.hid hoL
  have HG8 := Lib.hid h5
  clear hgl hoL
  go_wp2_with fail
  go_region_held3 (fun W => W.cell? ⟨w3.heap.size, 0, none⟩ = some (.int .i64 12) ∧ W.cell? ⟨w3.heap.size, 1, none⟩ = some (.slice au m5 cu) ∧ W.cell? ⟨w3.heap.size, 2, none⟩ = some (.slice av m3 cv)) (first | exact (HQ5.out _ hV0).1 | exact (HQ5.out _ hVL).1) (first
    | (go_at_call 34; refine HLE.out.mono ?_; rintro e wL ⟨rfl, hbL⟩; have hVL : Below w5.heap.size w5 wL := (by obtain ⟨k, rfl⟩ := hbL; exact below_drewN hV0 k); clear hbL))
  all_goals
    have HCI := Lib.hid (gcirc_any wL (HQ5.out _ hVL).2.2.1 _ outs (HQ5.out _ hVL).2.1 (by rw [HOL.out]; have := HTL.out; omega))
    have HVL := Lib.hid hVL
    unfold CirPost circV at HCI
    rw [HOL.out] at HCI
    clear hV0 hVL HLE
    go_wp2_with fail
    clear hgl2 hgl3 hgl4 hne hw12
    refine HCI.out.mono ?_
    rintro e w9 ⟨⟨u9, v9, rfl, hu9, hv9⟩, hb9⟩
    have HA10 : Hid (Below w9.heap.size w9 (w9.alloc (.cells #[.int .i64 (g.n : Int), u9, v9] 43))) := (Below.refl _ _).alloc (Nat.le_refl _) _
    have HZ10 : Hid ((w9.alloc (.cells #[.int .i64 (g.n : Int), u9, v9] 43)).heap.size = w9.heap.size + 1) := by unfold Hid; simp
    have HBX3 := Lib.hid (fun W hW => cirC_box w9 W (g.n : Int) u9 v9 hW)
    unfold CirC at HBX3
    rw [← HZ10.out] at HBX3
    have HPU : Hid (∀ W, Below w9.heap.size w9 W → PRow W u9 g.ands ∧ Row W v9 outs) := fun W hW => ⟨(own_prow hu9).keep hW, (own_row hv9).keep hW⟩
    have HB9 := Lib.hid (bb_step HVL.out hb9)
    obtain ⟨a9, c9, rfl, _, _⟩ := row_shape hu9
    obtain ⟨b9, d9, rfl, _, _⟩ := row_shape hv9
    clear hu9 hv9 hb9 HCI
    go_wp2_with fail
    generalize w9.alloc (.cells #[.int .i64 (g.n : Int), .slice a9 g.ands.length c9, .slice b9 m3 d9] 43) = w10 at *
    refine (HVAL.out _).mono ?_
    rintro e w11 ⟨zv, ins, rfl, hz, hb11⟩
    have hil : ins.length = 12 := by have := hz.1; simpa using this
    have HQ11 : Hid (∀ W, Below w11.heap.size w11 W → ((W.cell? ⟨w3.heap.size, 0, none⟩ = some (.int .i64 12) ∧ W.cell? ⟨w3.heap.size, 1, none⟩ = some (.slice au m5 cu) ∧ W.cell? ⟨w3.heap.size, 2, none⟩ = some (.slice av m3 cv)) ∧ W.cell? ⟨w9.heap.size, 0, none⟩ = some (.int .i64 (g.n : Int)) ∧ W.cell? ⟨w9.heap.size, 1, none⟩ = some (.slice a9 g.ands.length c9) ∧ W.cell? ⟨w9.heap.size, 2, none⟩ = some (.slice b9 m3 d9)) ∧
        BRow W zv ins ∧ PRow W (.slice a9 g.ands.length c9) g.ands ∧ Row W (.slice b9 m3 d9) outs ∧ Below w.heap.size w W ∧ Below w3.heap.size w3 W) := fun W hW => by
      have hb10 := bb_step hb11 hW
      obtain ⟨hc, hb9'⟩ := HBX3.out W hb10
      have hq := HQ5.out W (bb_step HB9.out hb9')
      obtain ⟨p1, p2⟩ := HPU.out W hb9'
      exact ⟨⟨hq.1, hc⟩, (own_rowG (mk := Value.bool) (d := false) hz).keep hW, p1, p2, hq.2.2.2.1, hq.2.2.2.2⟩
    have HIL := Lib.hid hil
    have hgn8 : g.n + g.ands.length ≤ 8000 := HG8.out
    have HCD := Lib.hid (fun W (hW : Below w11.heap.size w11 W) => gcheck_any A (g.n : Int) _ _ g.ands outs W (HS.out _ (HQ11.out W hW).2.2.2.2.1) (HQ11.out W hW).2.2.1 (HQ11.out W hW).2.2.2.1 ⟨by omega, by omega⟩ (by omega) (by rw [HOL.out]; have := HTL.out; omega) h6 h7)
    rw [h1, show errC A 0 = .nilIface from rfl] at HCD
    have HE1 := Lib.hid (fun W (hW : Below w11.heap.size w11 W) => HEV1.out W zv ins (HQ11.out W hW).2.2.2.2.2 (HQ11.out W hW).2.1 (by rw [HIL.out]; omega))
    have HE2 := Lib.hid (fun W (hW : Below w11.heap.size w11 W) => eval_any g.n _ _ zv g.ands outs ins W (HQ11.out W hW).2.2.1 (HQ11.out W hW).2.2.2.1 (HQ11.out W hW).2.1 (by rw [HIL.out]; omega) (by rw [HOL.out]; have := HTL.out; omega) h1)
    rw [HEQ.out ins] at HE2
    have HMD := Lib.hid (fun W (hW : Below w11.heap.size w11 W) => made_yes g _ _ outs W (HQ11.out W hW).2.2.1 (HQ11.out W hW).2.2.2.1 h1 h2 h3 HG8.out (by rw [HOL.out]; have := HTL.out; omega) h6 h7)
    generalize evalV 12 ps' os' ins = bs at *
    have HSB := Lib.hid (fun W v1 v2 h1 h2 => sameBools_yes v1 v2 bs W h1 h2)
    rw [HOL.out] at HE2
    unfold circV at HCD HE2 HMD
    obtain ⟨az, cz, rfl, _, _⟩ := own_shape hz
    have hV0 : Below w11.heap.size w11 w11.drew := (Below.refl _ _).drew
    clear hz hb11 hil hgn8 h1 h2 h3 h5 h6 h7
    go_wp2_with fail
    go_region_held3 (fun W => (W.cell? ⟨w3.heap.size, 0, none⟩ = some (.int .i64 12) ∧ W.cell? ⟨w3.heap.size, 1, none⟩ = some (.slice au m5 cu) ∧ W.cell? ⟨w3.heap.size, 2, none⟩ = some (.slice av m3 cv)) ∧ W.cell? ⟨w9.heap.size, 0, none⟩ = some (.int .i64 (g.n : Int)) ∧ W.cell? ⟨w9.heap.size, 1, none⟩ = some (.slice a9 g.ands.length c9) ∧ W.cell? ⟨w9.heap.size, 2, none⟩ = some (.slice b9 m3 d9)) (first | exact (HQ11.out _ hV0).1 | exact (HQ11.out _ hVC).1 | exact (HQ11.out _ hVE).1 | exact (HQ11.out _ hVF).1 | exact (HQ11.out _ hVS).1 | exact (HQ11.out _ hVM).1) (first
      | (go_at_call 39; refine (HCD.out _ hV0).mono ?_; rintro e wC ⟨rfl, hbC⟩; have hVC := bb_step hV0 hbC; clear hbC)
      | (go_at_call_of 33 (Value.agg #[.int .i64 12, .slice au m5 cu, .slice av m3 cv]); refine (HE1.out _ hVC).mono ?_; rintro e wE ⟨zE, rfl, hzE, hbE⟩; have hVE := bb_step hVC hbE; have HBE := Lib.hid (own_rowG (mk := Value.bool) (d := false) hzE); obtain ⟨aE, cE, rfl, _, _⟩ := own_shape hzE; clear hzE hbE)
      | (go_at_call 33; refine (HE2.out _ hVE).mono ?_; rintro e wF ⟨zF, rfl, hzF, hbF⟩; have hVF := bb_step hVE hbF; have HBF := Lib.hid (HSB.out wF _ _ (RowG.keep HBE.out hbF) (own_rowG (mk := Value.bool) (d := false) hzF)); obtain ⟨aF, cF, rfl, _, _⟩ := own_shape hzF; clear hzF hbF)
      | (go_at_call 45; refine HBF.out.mono ?_; rintro e wS ⟨rfl, hbS⟩; have hVS := bb_step hVF hbS; clear hbS)
      | (go_at_call 46; refine (HMD.out _ hVS).mono ?_; rintro e wM ⟨rfl, hbM⟩; have hVM := bb_step hVS hbM; clear hbM))
    all_goals
      go_wp2_with fail
      go_ret
      exact ⟨rfl, (HQ11.out _ hVM).2.2.2.2.1⟩
end Go.Proofs.YtbighmmjmklioaaDoor
