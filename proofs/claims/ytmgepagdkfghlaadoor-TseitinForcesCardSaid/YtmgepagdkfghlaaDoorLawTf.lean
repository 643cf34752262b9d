/- The law TseitinForces: true for whatever arguments. Conditions: the slice and the numbers read as 64-bit ints; the two errors lie as 'Sents2' says. -/
import Derived.Test.YtmgepagdkfghlaaDoorCvS
import Derived.Test.YtmgepagdkfghlaaDoorOfA
namespace Go.Proofs.YtmgepagdkfghlaaDoor
open Go.RowKit

set_option maxRecDepth 8000 in
set_option maxHeartbeats 8000000 in
theorem lawTf_any (A : Nat → Addr) (a2 : Option Addr) (c2 : Nat) (ls : List Int) (lit n : Int) (w : World) (hS : Sents2 w A) (hl : RowAt w a2 c2 ls) (hlb : ∀ y ∈ ls, in64 y) (hlit : in64 lit) (hn : in64 n) :
    Calls Tryd.prog 5 #[.slice a2 ls.length c2, .int .i64 lit, .int .i64 n] w fun e w' => e = .returned (.bool true) ∧ Below w.heap.size w w' := by
  have HF := Lib.hid (first13_any A w hS)
  by_cases hout : 30 < ls.length
  · have d1 : decide (30 < ls.length) = true := decide_eq_true hout
    clear hl hlb hS
    generalize ls.length = m at *
    go_enter Tryd.func5, Tryd.ntmps5
    go_wp2_with fail
    refine HF.out.mono ?_
    rintro e w1 ⟨rfl, hb1⟩
    go_wp2_with fail
    go_ret
    exact ⟨rfl, hb1⟩
  · have d1 : decide (30 < ls.length) = false := decide_eq_false hout
    have HS := Lib.hid (fun W (hW : Below w.heap.size w W) => hS.keep hW)
    have HMK := Lib.hid (fun W (hW : Below w.heap.size w W) => mkc_any 6 (.slice a2 ls.length c2) (.slice none 0 0) ls [] W ⟨_, _, rfl, hl.keep hW⟩ (Row.nil _) (by omega) (by omega) (by simp) hlb (by simp))
    have HVAL := Lib.hid (fun W => values_any n 6 W hn.1 hn.2 (by omega))
    have HL30 : Hid (ls.length ≤ 30) := by unfold Hid; omega
    have HLB := Lib.hid hlit
    clear hS hl hlb hn hlit
    generalize ls.length = m2 at *
    go_enter Tryd.func5, Tryd.ntmps5
    go_wp2_with fail
    refine HF.out.mono ?_
    rintro e w1 ⟨rfl, hb1⟩
    have HM := Lib.hid (HMK.out _ hb1)
    have HB1 := Lib.hid hb1
    clear hb1 HF HMK
    rw [show ((6 : Nat) : Int) = 6 from rfl] at HM
    go_wp2_with fail
    refine HM.out.mono ?_
    rintro e w5 ⟨⟨u', v', ps', os', rfl, hu', hv', hck, hpl, hol, hpb, hob⟩, hb5⟩
    have HB5 := Lib.hid (HB1.out.trans (hb5.mono HB1.out.size))
    obtain rfl : os' = [] := List.eq_nil_of_length_eq_zero hol
    clear hb5 HM HB1
    have HU := Lib.hid (fun W (hW : Below w5.heap.size w5 W) => hu'.keep hW)
    have HV := Lib.hid (fun W (hW : Below w5.heap.size w5 W) => hv'.keep hW)
    obtain ⟨hnm, hokp, _⟩ := check_zero8 hck
    have HC5 := Lib.hid (CV.new w5 (6 : Int) u' v' 25)
    have HA5 : Hid (Below w5.heap.size w5 (w5.alloc (.cells #[.int .i64 6, u', v'] 25))) := (Below.refl _ _).alloc (Nat.le_refl _) _
    have hm30 : ps'.length ≤ 30 := Nat.le_trans hpl HL30.out
    have NL := Lib.hid (fun W => number_any lit (2 * (6 + (ps'.length : Int)) + 2) W (by omega) (by omega) HLB.out.1 HLB.out.2)
    have hl0 := Int.emod_nonneg lit (show 2 * (6 + (ps'.length : Int)) + 2 ≠ 0 by omega)
    have hl1 := Int.emod_lt_of_pos lit (show (0 : Int) < 2 * (6 + (ps'.length : Int)) + 2 by omega)
    generalize lit % (2 * (6 + (ps'.length : Int)) + 2) = l at *
    have hokl : okO (6 + ps'.length) l = true := by rw [okO_iff]; omega
    have HK1 := Lib.hid (check_outs (os' := [l]) hck (fun o ho => by rw [List.mem_singleton] at ho; subst ho; exact hokl))
    have HTE := Lib.hid (fun W f (hW : Below w5.heap.size w5 W) (hf : Row W f [l]) => tenc_ok A 6 u' v' f ps' [] [l] W (HS.out _ (HB5.out.trans (hW.mono HB5.out.size))) (HU.out _ hW) (HV.out _ hW) hf (by simp) hpb (by simp) (by intro x hx; rw [List.mem_singleton] at hx; subst hx; exact ⟨by omega, by omega⟩) hck (by rw [List.all_cons, hokl]; rfl) (by simp))
    have HIN := Lib.hid (encC_in (fs := [l]) hokp (by intro x hx; rw [List.mem_singleton] at hx; subst hx; omega))
    have HEF := Lib.hid (fun ins => enc_forced (N := 6) (ps := ps') ins hokp l hl0 (by omega))
    unfold EncPost at HTE
    rw [show errC A 0 = .nilIface from rfl, show ((6 : Nat) : Int) = 6 from rfl] at HTE
    have HEV := Lib.hid (fun W v q ins (hW : Below w5.heap.size w5 W) (hv : Row W v [l]) (hq : BRow W q ins) (hi : ins.length ≤ 1000) => eval_any 6 u' v q ps' [l] ins W (HU.out _ hW) hv hq hi (by simp) HK1.out)
    have HND := Lib.hid (fun W v q ins (hW : Below w5.heap.size w5 W) (hv : Row W v [l]) (hq : BRow W q ins) (hi : ins.length ≤ 1000) => nodes_any 6 u' v q ps' [l] ins W (HU.out _ hW) hv hq hi HK1.out)
    rw [show ((6 : Nat) : Int) = 6 from rfl] at HEV HND
    obtain ⟨au, cu, rfl, hu1, hu2, _⟩ := hu'
    obtain ⟨av, cv, rfl, _⟩ := hv'
    unfold maxLen at hu2
    clear hck hokp hokl hpb hob hol hpl
    unfold circV at *
    rw [show ((6 : Nat) : Int) = 6 from rfl]
    generalize hm5 : ps'.length = m5 at *
    have HM5 := Lib.hid hm5
    clear hm5
    rw [List.length_nil] at HC5 HA5 HTE
    obtain ⟨z0, z1, z2, zf, zl⟩ := HC5.out
    go_wp2_with fail
    generalize hw6 : w5.alloc (.cells #[.int .i64 6, .slice au m5 cu, .slice av 0 cv] 25) = w6 at *
    refine (NL.out _).mono ?_
    rintro e w' ⟨rfl, rfl⟩
    clear NL hw6
    have HA6 : Hid (Below w6.heap.size w6 (w6.alloc (.cells ([l].map (Value.int .i64)).toArray 3))) := (Below.refl _ _).alloc (Nat.le_refl _) _
    have HR6 := Lib.hid (row_lit13 w6 [l] (by simp))
    have HE6 := Lib.hid (HTE.out _ _ (bb_step HA5.out HA6.out) HR6.out)
    rw [show (([l].map (Value.int .i64)).toArray) = #[Value.int .i64 l] from rfl] at HA6 HE6
    simp only [List.length_singleton] at HE6
    go_wp2_with fail
    generalize w6.alloc (.cells #[.int .i64 l] 3) = w7 at *
    refine HE6.out.mono ?_
    rintro e w8 ⟨⟨o8, rfl, hr8⟩, hb8⟩
    have HL57 := Lib.hid (Nat.lt_of_lt_of_le HC5.out.lt HA6.out.size)
    have HL78 := Lib.hid hb8.size
    have HB8 := Lib.hid ((HA5.out.trans (HA6.out.mono HA5.out.size)).trans (hb8.mono (Nat.le_trans HA5.out.size HA6.out.size)))
    have HCV8 := Lib.hid (HC5.out.keep (HA6.out.trans (hb8.mono HA6.out.size)))
    have HNV := Lib.hid (NV.new w8 (6 + (m5 : Int)) o8 29)
    have HA8 : Hid (Below w8.heap.size w8 (w8.alloc (.cells #[.int .i64 (6 + (m5 : Int)), o8] 29))) := (Below.refl _ _).alloc (Nat.le_refl _) _
    have HR8 := Lib.hid (fun W (hW : Below w8.heap.size w8 W) => hr8.keep hW)
    obtain ⟨ao, co, rfl, _⟩ := hr8.rows
    generalize hlg : (encC 6 ps' [l]).length = lg at *
    have HLG := Lib.hid hlg
    clear hlg
    clear z0 z1 z2 zf zl hr8 hb8 HTE HC5 HE6 HR6 HA5 HA6
    go_wp2_with fail
    have HB9 := Lib.hid (HB8.out.trans (HA8.out.mono HB8.out.size))
    have HCV9 := Lib.hid (HCV8.out.keep HA8.out)
    have HR9 := Lib.hid (HR8.out _ HA8.out)
    have HL89 := Lib.hid HA8.out.size
    generalize w8.alloc (.cells #[.int .i64 (6 + (m5 : Int)), .slice ao lg co] 29) = w9 at *
    refine (HVAL.out _).mono ?_
    rintro e w10 ⟨zv, ins, rfl, hz, hb10⟩
    have hil : ins.length = 6 := by have := hz.1; simpa using this
    have HCV10 := Lib.hid (HCV9.out.keep hb10)
    have HNV10 := Lib.hid (HNV.out.keep hb10)
    have HB10 := Lib.hid (HB9.out.trans (hb10.mono HB9.out.size))
    have HZR := Lib.hid (own_rowG (mk := Value.bool) (d := false) hz)
    have HR10 := Lib.hid (HR9.out.keep hb10)
    obtain ⟨az, cz, rfl, _, _⟩ := own_shape hz
    have HL510 := Lib.hid (show w5.heap.size < w9.heap.size by have := HL57.out; have := HL78.out; have := HL89.out; omega)
    have HZS := Lib.hid (fun x => own_rowG (mk := Value.bool) (d := false) (ownsRow_setCell_below hz (a := ⟨w5.heap.size, 2, none⟩) HL510.out x))
    clear hz hb10 HVAL HCV9 HR9 HNV HR8 HA8 HCV8 HB8
    have HQ11 := Lib.hid (cs_outs HCV10.out HB10.out [l] 1 rfl (by omega))
    have HAA : Hid (Below (w10.setCell ⟨w5.heap.size, 2, none⟩ (.slice (some ⟨w10.heap.size, 0, none⟩) 1 1)).heap.size (w10.setCell ⟨w5.heap.size, 2, none⟩ (.slice (some ⟨w10.heap.size, 0, none⟩) 1 1)) ((w10.setCell ⟨w5.heap.size, 2, none⟩ (.slice (some ⟨w10.heap.size, 0, none⟩) 1 1)).alloc (.cells ([l].map (Value.int .i64)).toArray 3))) := (Below.refl _ _).alloc (Nat.le_refl _) _
    have HNV11 := Lib.hid ((HNV10.out.off (b' := w5.heap.size) (i := 2) (by have := HL57.out; have := HL78.out; omega) (.slice (some ⟨w10.heap.size, 0, none⟩) 1 1)).keep HAA.out)
    have HR11 := Lib.hid ((HR10.out.set w5.heap.size 2 (.slice (some ⟨w10.heap.size, 0, none⟩) 1 1) HL57.out).keep HAA.out)
    have HZ11 := Lib.hid (BRow.keep (HZS.out (.slice (some ⟨w10.heap.size, 0, none⟩) 1 1)) HAA.out)
    rw [show (([l].map (Value.int .i64)).toArray) = #[Value.int .i64 l] from rfl] at HQ11 HAA HNV11 HR11 HZ11
    obtain ⟨z0, z1, z2, zf, zl⟩ := HCV10.out
    go_wp2_with fail
    generalize (w10.setCell ⟨w5.heap.size, 2, none⟩ (.slice (some ⟨w10.heap.size, 0, none⟩) 1 1)).alloc (.cells #[.int .i64 l] 3) = w11 at *
    have HQ := Lib.hid (fun W (hW : Below w11.heap.size w11 W) => And.intro (HQ11.out.keep hW) (And.intro (HNV11.out.keep hW) (And.intro (HR11.out.keep hW) (BRow.keep HZ11.out hW))))
    have HE11 := Lib.hid (HEV.out w11 _ _ ins HQ11.out.bel (own_row HQ11.out.own) HZ11.out (by omega))
    have HNW := Lib.hid (fun W (hW : Below w11.heap.size w11 W) => HND.out W _ _ ins (HQ.out W hW).1.bel (own_row (HQ.out W hW).1.own) (HQ.out W hW).2.2.2 (by omega))
    simp only [List.length_singleton] at HE11 HNW
    clear z0 z1 z2 zf zl HAA HZS HNV10 HR10 HCV10 HB10 HEV HND HQ11 HNV11 HR11 HZ11
    refine HE11.out.mono ?_
    rintro e w12 ⟨zw, rfl, hzw, hb12⟩
    have HB12 := Lib.hid hb12
    obtain ⟨gw, cw, rfl, hgw, hgl, _, _⟩ := own_some hzw (by simp)
    have y0 := hzw.cells (g := gw) rfl 0 (.bool (worthV (nodesV 6 ps' ins) l)) rfl
    rw [show (⟨gw, 0, none⟩ : Addr).add 0 = ⟨gw, 0, none⟩ from rfl] at y0
    have HY0 := Lib.hid (And.intro y0 hgl)
    have HN12 := Lib.hid (HNW.out _ hb12)
    obtain ⟨z0, z1, z2, zf, zl⟩ := (HQ.out _ hb12).1.cv
    clear hzw hb12 HE11 HNW y0 hgl
    go_wp2_with fail
    refine HN12.out.mono ?_
    rintro e w13 ⟨zn, rfl, hzn, hb13⟩
    have HB13 := Lib.hid (HB12.out.trans (hb13.mono HB12.out.size))
    have HOF := Lib.hid (fun W (hW : Below w13.heap.size w13 W) => refOf_any ao co (encC 6 ps' [l]) zn (nodesV 6 ps' ins) W (HQ.out _ (HB13.out.trans (hW.mono HB13.out.size))).2.2.1.rows_at.2 (BRow.keep (own_rowG (mk := Value.bool) (d := false) hzn) hW) (fun c hc => (HIN.out c hc).inW (by omega)))
    rw [HLG.out, HEF.out ins] at HOF
    have HOT := Lib.hid (fun t => HOF.out (w13.drewN t) (below_drewN (Below.refl _ _) t))
    have y1 := (hb13.cell (p := ⟨gw, 0, none⟩) HY0.out.2).trans HY0.out.1
    have HBF : Hid (∀ t, Below w.heap.size w (w13.drewN t)) := fun t => below_drewN (HB5.out.trans ((HQ.out _ HB13.out).1.bel.mono HB5.out.size)) t
    obtain ⟨n0, n1, nl⟩ := (HQ.out _ HB13.out).2.1
    obtain ⟨az3, cz3, rfl, _, _⟩ := own_shape hzn
    generalize worthV (nodesV 6 ps' ins) l = xb at *
    have hxx : (xb == xb) = true := by simp
    clear z0 z1 z2 zf zl hzn hb13 HN12 HOF HY0 HEF
    go_upto_region 13 with fail
    go_quiet (first | (go_at_call 22; refine (HOT.out _).mono ?_; rintro e w' ⟨rfl, rfl⟩; exact ⟨rfl, _, rfl⟩))
    go_wp2_with fail
    go_ret
    exact ⟨rfl, HBF.out _⟩
end Go.Proofs.YtmgepagdkfghlaaDoor
