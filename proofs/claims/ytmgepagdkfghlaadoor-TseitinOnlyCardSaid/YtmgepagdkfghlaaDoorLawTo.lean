/- The law TseitinOnly: true for whatever arguments. Conditions: the slice reads as 64-bit ints; the two errors lie as 'Sents2' says. -/
import Derived.Test.YtmgepagdkfghlaaDoorCvS
import Derived.Test.YtmgepagdkfghlaaDoorOfA
namespace Go.Proofs.YtmgepagdkfghlaaDoor
open Go.RowKit

set_option maxRecDepth 8000 in
set_option maxHeartbeats 2000000 in
theorem lawTo_out (A : Nat → Addr) (N : Int) (a2 : Option Addr) (c2 m2 : Nat) (n k : Int) (w : World) (hS : Sents2 w A) (ho : 60 < m2 ∨ N < 1 ∨ 20 < N) :
    Calls Tryd.prog 4 #[.int .i64 N, .slice a2 m2 c2, .int .i64 n, .int .i64 k] w fun e w' => e = .returned (.bool true) ∧ Below w.heap.size w w' := by
  have HF := Lib.hid (first13_any A w hS)
  clear hS
  by_cases d1 : 60 < m2
  · have d1' : decide (60 < m2) = true := decide_eq_true d1
    clear ho
    go_enter Tryd.func4, Tryd.ntmps4
    go_wp2_with fail
    refine HF.out.mono ?_
    rintro e w1 ⟨rfl, hb1⟩
    go_wp2_with fail
    go_ret
    exact ⟨rfl, hb1⟩
  · have d1' : decide (60 < m2) = false := decide_eq_false d1
    by_cases d2 : N < 1
    · clear ho
      go_enter Tryd.func4, Tryd.ntmps4
      go_wp2_with fail
      refine HF.out.mono ?_
      rintro e w1 ⟨rfl, hb1⟩
      go_wp2_with fail
      go_ret
      exact ⟨rfl, hb1⟩
    · have d3 : 20 < N := by omega
      clear ho
      go_enter Tryd.func4, Tryd.ntmps4
      go_wp2_with fail
      refine HF.out.mono ?_
      rintro e w1 ⟨rfl, hb1⟩
      go_wp2_with fail
      go_ret
      exact ⟨rfl, hb1⟩

set_option maxRecDepth 8000 in
set_option maxHeartbeats 8000000 in
theorem lawTo_any (A : Nat → Addr) (N0 : Int) (a2 : Option Addr) (c2 : Nat) (ls : List Int) (n k : Int) (w : World) (hS : Sents2 w A) (hl : RowAt w a2 c2 ls) (hlb : ∀ y ∈ ls, in64 y) (hn : in64 n) (hk : in64 k) :
    Calls Tryd.prog 4 #[.int .i64 N0, .slice a2 ls.length c2, .int .i64 n, .int .i64 k] w fun e w' => e = .returned (.bool true) ∧ Below w.heap.size w w' := by
  by_cases hout : 60 < ls.length ∨ N0 < 1 ∨ 20 < N0
  · exact lawTo_out A N0 a2 c2 ls.length n k w hS hout
  have d1 : decide (60 < ls.length) = false := decide_eq_false fun h => hout (.inl h)
  have e1 : ¬ 60 < ls.length := fun h => hout (.inl h)
  obtain ⟨N, rfl⟩ : ∃ N : Nat, N0 = (N : Int) := ⟨N0.toNat, by omega⟩
  have e2 : ¬ (N : Int) < 1 := fun h => hout (.inr (.inl h))
  have e3 : ¬ (20 : Int) < (N : Int) := fun h => hout (.inr (.inr h))
  clear hout
  have HF := Lib.hid (first13_any A w hS)
  have HS := Lib.hid (fun W (hW : Below w.heap.size w W) => hS.keep hW)
  have HMK := Lib.hid (fun W (hW : Below w.heap.size w W) => mkc_any N (.slice a2 ls.length c2) (.slice none 0 0) ls [] W ⟨_, _, rfl, hl.keep hW⟩ (Row.nil _) (by omega) (by omega) (by simp) hlb (by simp))
  have HVAL := Lib.hid (fun W => values_any n N W hn.1 hn.2 (by omega))
  have HL60 : Hid (ls.length ≤ 60) := by unfold Hid; omega
  have HKB := Lib.hid hk
  have HN1 : Hid (1 ≤ N ∧ N ≤ 20) := by unfold Hid; omega
  clear hS hl hlb hn hk
  generalize ls.length = m2 at *
  go_enter Tryd.func4, Tryd.ntmps4
  go_wp2_with fail
  refine HF.out.mono ?_
  rintro e w1 ⟨rfl, hb1⟩
  have HM := Lib.hid (HMK.out _ hb1)
  have HB1 := Lib.hid hb1
  clear hb1 HF HMK
  go_wp2_with fail
  refine HM.out.mono ?_
  rintro e w5 ⟨⟨u', v', ps', os', rfl, hu', hv', hck, hpl, hol, hpb, hob⟩, hb5⟩
  obtain rfl : os' = [] := List.eq_nil_of_length_eq_zero hol
  have HB5 := Lib.hid (HB1.out.trans (hb5.mono HB1.out.size))
  clear hb5 HM HB1
  obtain ⟨hnm, hokp, _⟩ := check_zero8 hck
  have HOKP := Lib.hid hokp
  have HCV := Lib.hid (CV.new w5 (N : Int) u' v' 25)
  have HA5 : Hid (Below w5.heap.size w5 (w5.alloc (.cells #[.int .i64 (N : Int), u', v'] 25))) := (Below.refl _ _).alloc (Nat.le_refl _) _
  have HU := Lib.hid (fun W (hW : Below w5.heap.size w5 W) => hu'.keep hW)
  have HV := Lib.hid (fun W (hW : Below w5.heap.size w5 W) => hv'.keep hW)
  have HTE := Lib.hid (fun W (hW : Below w5.heap.size w5 W) => tenc_ok A N u' v' (.slice none 0 0) ps' [] [] W (HS.out _ (HB5.out.trans (hW.mono HB5.out.size))) (HU.out _ hW) (HV.out _ hW) (Row.nil _) (by simp) hpb (by simp) (by simp) hck (by simp) (by simp))
  have HXE := Lib.hid (fun W q ins (hW : Below w5.heap.size w5 W) (hq : BRow W q ins) (hi : ins.length ≤ 1000) => text_any A N u' v' q ps' [] ins W (HS.out _ (HB5.out.trans (hW.mono HB5.out.size))) (HU.out _ hW) (HV.out _ hW) (by simp) (by simp) hq hi hck)
  have HIN := Lib.hid (encC_in (fs := []) hokp (by simp))
  unfold EncPost at HTE
  rw [show errC A 0 = .nilIface from rfl] at HTE
  rw [encC_nil] at HTE HIN
  have HMO := Lib.hid (fun ins => enc_model (N := N) (ps := ps') ins hokp)
  have HTU := Lib.hid (fun ins K hK => enc_turned (N := N) (ps := ps') ins hokp K hK)
  obtain ⟨au, cu, rfl, hu1, hu2, _⟩ := hu'
  obtain ⟨av, cv, rfl, _⟩ := hv'
  have hm60 : ps'.length ≤ 60 := Nat.le_trans hpl HL60.out
  clear hck hokp hpb hob hol hpl
  unfold circV at *
  generalize hm5 : ps'.length = m5 at *
  have HM5 := Lib.hid hm5
  clear hm5
  rw [List.length_nil] at HCV HA5 HTE HXE
  obtain ⟨z0, z1, z2, zf, zl⟩ := HCV.out
  go_wp2_with fail
  generalize w5.alloc (.cells #[.int .i64 (N : Int), .slice au m5 cu, .slice av 0 cv] 25) = w6 at *
  refine (HTE.out _ HA5.out).mono ?_
  rintro e w7 ⟨⟨o7, rfl, hr7⟩, hb7⟩
  have HB7 := Lib.hid (HA5.out.trans (hb7.mono HA5.out.size))
  have HCV7 := Lib.hid (HCV.out.keep hb7)
  have HNV := Lib.hid (NV.new w7 ((N : Int) + (m5 : Int)) o7 29)
  have HA7 : Hid (Below w7.heap.size w7 (w7.alloc (.cells #[.int .i64 ((N : Int) + (m5 : Int)), o7] 29))) := (Below.refl _ _).alloc (Nat.le_refl _) _
  have HR7 := Lib.hid (fun W (hW : Below w7.heap.size w7 W) => hr7.keep hW)
  obtain ⟨ao, co, rfl, _⟩ := hr7.rows
  generalize hlg : (gatesC N ps' m5).length = lg at *
  have HLG := Lib.hid hlg
  clear hlg
  clear z0 z1 z2 zf zl hr7 hb7 HTE HCV
  go_wp2_with fail
  generalize w7.alloc (.cells #[.int .i64 ((N : Int) + (m5 : Int)), .slice ao lg co] 29) = w8 at *
  have HCV8 := Lib.hid (HCV7.out.keep HA7.out)
  have HB8 := Lib.hid (HB7.out.trans (HA7.out.mono HB7.out.size))
  have HR8 := Lib.hid (HR7.out _ HA7.out)
  have HQ8 := Lib.hid (fun W (hW : Below w8.heap.size w8 W) => And.intro (HCV8.out.keep hW) (And.intro (HNV.out.keep hW) (HR8.out.keep hW)))
  go_upto_region 8 with fail
  clear HCV7 HB7 HR7 HA7
  have hV0 : Below w8.heap.size w8 w8.drew := (Below.refl _ _).drew
  have S0 := Lib.hid (show w8.cell? ⟨w5.heap.size, 0, none⟩ = some (.int .i64 (N : Int)) ∧ w8.cell? ⟨w5.heap.size, 1, none⟩ = some (.slice au m5 cu) ∧ w8.cell? ⟨w5.heap.size, 2, none⟩ = some (.slice av 0 cv) from ⟨HCV8.out.c0, HCV8.out.c1, HCV8.out.c2⟩)
  have HSS := Lib.hid (fun W (hW : Below w8.heap.size w8 W) => show W.cell? ⟨w5.heap.size, 0, none⟩ = some (.int .i64 (N : Int)) ∧ W.cell? ⟨w5.heap.size, 1, none⟩ = some (.slice au m5 cu) ∧ W.cell? ⟨w5.heap.size, 2, none⟩ = some (.slice av 0 cv) from ⟨(HQ8.out W hW).1.c0, (HQ8.out W hW).1.c1, (HQ8.out W hW).1.c2⟩)
  have S1 := Lib.hid (HSS.out _ hV0)
  go_region_held3 (fun W => W.cell? ⟨w5.heap.size, 0, none⟩ = some (.int .i64 (N : Int)) ∧ W.cell? ⟨w5.heap.size, 1, none⟩ = some (.slice au m5 cu) ∧ W.cell? ⟨w5.heap.size, 2, none⟩ = some (.slice av 0 cv)) (first | (with_reducible exact S0.out) | (with_reducible exact S1.out) | (with_reducible exact S2.out) | (with_reducible exact S3.out)) (first
    | (go_at_call 14; refine (HVAL.out _).mono ?_; rintro e w9 ⟨zv, ins, rfl, hz, hb9⟩; have hV9 := bb_step hV0 hb9; have S2 := Lib.hid (HSS.out _ hV9); have hil : ins.length = N := (by have := hz.1; simpa using this); have HX9 := Lib.hid (HXE.out w9 _ ins (bb_step HB8.out hV9) (own_rowG (mk := Value.bool) (d := false) hz) (by rw [hil]; have := HN1.out; omega)); obtain ⟨az, cz, rfl, _, _⟩ := own_shape hz; clear hz hb9 hil)
    | (go_at_call 13; refine HX9.out.mono ?_; rintro e wX ⟨zx, rfl, hzx, hbX⟩; have hVX := bb_step hV9 hbX; have S3 := Lib.hid (HSS.out _ hVX); have HZX := Lib.hid (own_base hzx hV9.size); have HVX := Lib.hid hVX; obtain ⟨ax, cx, rfl, _, _⟩ := own_shape hzx; clear hzx hbX hVX))
  all_goals
    clear hV0 S0 S1 hV9 S2 S3 HX9 HXE HVAL HCV8 HR8 HSS
    have HOF := Lib.hid (fun W mv bs (hW : Below w8.heap.size w8 W) (hm : BoolRow W mv bs) => refOf_any ao co (gatesC N ps' m5) mv bs W (HQ8.out _ hW).2.2.rows_at.2 hm (fun c hc => (HIN.out c hc).inW (by omega)))
    rw [HLG.out] at HOF
    have HMI := Lib.hid (HMO.out ins)
    have HO1 := Lib.hid (HOF.out wX (.slice ax (N + 1 + m5) cx) (nodesV N ps' ins) HVX.out (own_rowG (mk := Value.bool) (d := false) HZX.out))
    rw [HMI.out] at HO1
    have hNL : (nodesV N ps' ins).length = N + 1 + m5 := by rw [nodesV_len, HM5.out]
    obtain ⟨⟨z0, z1, z2, zf, zl⟩, ⟨n0, n1, nl⟩, _⟩ := HQ8.out _ HVX.out
    have HBX := Lib.hid (bb_step (bb_step HB5.out HB8.out) HVX.out)
    have HTV := Lib.hid (HTU.out ins)
    obtain ⟨g, cg, e, hgB, hgs, hgc, hgm⟩ := own_some HZX.out (by omega)
    injection e with e1 _ e3
    subst e1; subst e3
    have HCE := Lib.hid (CelG.of_own (mk := Value.bool) (d := false) HZX.out)
    generalize nodesV N ps' ins = vs at *
    generalize hKK : N + 1 + m5 = KK at *
    have hw1 : IntKind.i64.wrap ((N : Int) + (m5 : Int)) = (N : Int) + (m5 : Int) := IntWalk.i64_in _ (by omega)
    have hw2 : IntKind.i64.wrap ((N : Int) + (m5 : Int) + 1) = (KK : Int) := by rw [IntWalk.i64_in _ (by omega)]; omega
    have hw3 : ((KK : Int) != (KK : Int)) = false := by simp
    have hw4 : (((N : Int) + (m5 : Int)) != ((N : Int) + (m5 : Int))) = false := by simp
    have HKK := Lib.hid hKK
    clear hKK
    by_cases hm0 : m5 = 0
    · have hb0 : ((m5 : Int) == 0) = true := by simp [hm0]
      clear hm0
      go_wp2_with (go_at_call 22; refine HO1.out.mono ?_; rintro e w' ⟨rfl, rfl⟩)
      go_ret
      exact ⟨rfl, HBX.out⟩
    · have hb0 : ((m5 : Int) == 0) = false := by simp [hm0]
      have NK := Lib.hid (fun W => number_any k (m5 : Int) W (by omega) (by omega) HKB.out.1 HKB.out.2)
      obtain ⟨J, hJ⟩ : ∃ J : Nat, k % (m5 : Int) = (J : Int) := ⟨(k % (m5 : Int)).toNat, by have := Int.emod_nonneg k (show (m5 : Int) ≠ 0 by omega); omega⟩
      have hJm : J < m5 := by have := Int.emod_lt_of_pos k (show (0 : Int) < (m5 : Int) by omega); omega
      rw [hJ] at NK
      clear hJ
      have HT := Lib.hid (HTV.out J hJm)
      have q1 : IntKind.i64.wrap ((N : Int) + 1) = (N : Int) + 1 := IntWalk.i64_in _ (by omega)
      obtain ⟨P, hP⟩ : ∃ P : Nat, P = N + J + 1 := ⟨_, rfl⟩
      have q2 : IntKind.i64.wrap ((N : Int) + 1 + (J : Int)) = (P : Int) := by rw [IntWalk.i64_in _ (by omega)]; omega
      rw [← hP] at HT
      have hPK : P < KK := by have := HKK.out; omega
      have i1 : (0 : Int) ≤ (P : Int) := Int.natCast_nonneg P
      have i2 : (P : Int) < (KK : Int) := by omega
      have x0 := HCE.out.cells P (by rw [hNL]; exact hPK)
      have xf := HCE.out.free P
      have HV10 := Lib.hid (HVX.out.setCell (show w8.heap.size ≤ (⟨g, P, none⟩ : Addr).block from hgB) (.bool (!(vs.getD P false))))
      have HC10 := Lib.hid (HCE.out.set P (!(vs.getD P false)))
      have HRW := Lib.hid (HC10.out.row cx (by rw [List.length_set, hNL]; exact hgc) hgm)
      rw [List.length_set, hNL] at HRW
      have HO2 := Lib.hid (HOF.out _ (.slice (some ⟨g, 0, none⟩) KK cx) _ HV10.out HRW.out)
      rw [HT.out] at HO2
      obtain ⟨⟨y0, y1, y2, yf, yl⟩, ⟨v0, v1, vl⟩, _⟩ := HQ8.out _ HV10.out
      generalize vs.getD P false = xb at *
      clear hP hJm
      go_wp2_with fail
      refine HO1.out.mono ?_
      rintro e w' ⟨rfl, rfl⟩
      go_wp2_with fail
      refine (NK.out _).mono ?_
      rintro e w' ⟨rfl, rfl⟩
      clear NK HO1 HVX HOF HCE HT HTV HMI HBX
      have HB10 := Lib.hid (bb_step (bb_step HB5.out HB8.out) HV10.out)
      go_wp2_with fail
      refine HO2.out.mono ?_
      rintro e w' ⟨rfl, rfl⟩
      go_wp2_with fail
      go_ret
      exact ⟨rfl, HB10.out⟩
end Go.Proofs.YtmgepagdkfghlaaDoor
