/- The walk of skolemlaw15.PropLevels: it answers true. Conditions: the arguments read as 64-bit ints. -/
import Derived.Test.YtkjaepcdhclmfaaPrT
import Derived.Test.YtkjaepcdhclmfaaPrL
import Derived.Test.YtkjaepcdhclmfaaPrM
import Derived.Deep.LoopGhost
import Derived.Deep.CutBlock
import Derived.Deep.DeepCutAuto
set_option linter.unusedVariables false
set_option linter.unusedSimpArgs false
namespace Go.Proofs.Ytkjaepcdhclmfaa
open Go.RowKit

set_option maxRecDepth 8000 in
set_option maxHeartbeats 8000000 in
theorem lawLv (la : Option Addr) (lc : Nat) (ls : List Int) (ov : Value) (os : List Int) (back : Int) (w : World) (hl : RowAt w la lc ls) (ho : Row w ov os)
    (hli : ∀ y ∈ ls, -9223372036854775808 ≤ y ∧ y ≤ 9223372036854775807) (hoi : ∀ y ∈ os, -9223372036854775808 ≤ y ∧ y ≤ 9223372036854775807) (hb1 : -9223372036854775808 ≤ back) (hb2 : back ≤ 9223372036854775807) :
    Calls Try.prog 4 #[.slice la ls.length lc, ov, .int .i64 back] w fun e w' => e = .returned (.bool true) ∧ Below w.heap.size w w' := by
  have HRL : Hid (∀ V, Below w.heap.size w V → Row V (.slice la ls.length lc) ls) := fun V hV => Row.keep ⟨la, lc, rfl, hl⟩ hV
  obtain ⟨hl1, hl2, hl3⟩ := hl
  obtain ⟨oa, oc, rfl, ho1, ho2, ho3⟩ := ho
  unfold maxLen at hl2 ho2
  have HOX := Lib.hid ho3; clear ho3
  clear hl3
  have HLI := Lib.hid hli; clear hli
  have HOI : Hid (∀ k, k < os.length → -9223372036854775808 ≤ os.getD k 0 ∧ os.getD k 0 ≤ 9223372036854775807) := fun k hk => hoi _ (getD_mem hk)
  clear hoi
  generalize hn : ls.length = n at *
  have HN := Lib.hid hn; clear hn
  generalize hm : os.length = m at *
  have HM := Lib.hid hm; clear hm
  by_cases g1 : 60 < n
  · have d1 : decide ((60 : Int) < (n : Int)) = true := decide_eq_true (by omega)
    clear g1
    go_enter Try.func4, Try.ntmps4
    go_wp2_with (go_at_call 7; refine (first15_any _).mono ?_; rintro e w1 ⟨rfl, hb⟩)
    go_ret
    exact ⟨rfl, hb⟩
  · have d1 : decide ((60 : Int) < (n : Int)) = false := decide_eq_false (by omega)
    by_cases g2 : 12 < m
    · have d2 : decide ((12 : Int) < (m : Int)) = true := decide_eq_true (by omega)
      clear g1 g2
      go_enter Try.func4, Try.ntmps4
      go_wp2_with (go_at_call 7; refine (first15_any _).mono ?_; rintro e w1 ⟨rfl, hb⟩)
      go_ret
      exact ⟨rfl, hb⟩
    · have d2 : decide ((12 : Int) < (m : Int)) = false := decide_eq_false (by omega)
      have hn60 : n ≤ 60 := by omega
      have hm12 : m ≤ 12 := by omega
      clear g1 g2
      go_enter Try.func4, Try.ntmps4
      go_wp2_with fail
      refine (first15_any _).mono ?_
      rintro e w1 ⟨rfl, hb⟩
      have H0 := Lib.hid (ps_new hb 12 (by decide) (by decide))
      clear hb
      go_wp2_with fail
      refine H0.out.mono ?_
      rintro e w2 ⟨u, rfl, hG⟩
      obtain ⟨q, rfl⟩ := hG.ptr
      have HG := Lib.hid hG
      have hra := row_at (HRL.out w2 hG.bel)
      have H1 := Lib.hid (makeCl_any la lc ls 12 w2 (by decide) (by decide) hra.2 HLI.out (by rw [HN.out]; omega))
      rw [HN.out] at H1
      clear hG hra H0 d1 d2
      go_wp2_with fail
      refine H1.out.mono ?_
      rintro e w3 ⟨⟨cv, xss, rfl, hcr, hx1, hx2, hx3⟩, hb3⟩
      have HRT : Hid (RowsT w3 (fun i => w2.heap.size ≤ i ∧ i < w3.heap.size) cv xss) := hcr.rowsT fun i h1 h2 => ⟨h1, h2⟩
      have HP : Hid (PT w (fun i => w2.heap.size ≤ i ∧ i < w3.heap.size) (.pointer (some ⟨q, 0, none⟩)) (newP 12) w3) := HG.out.pt.more hb3 fun i hi => .inr hi
      have HXI := Lib.hid (made_in (by decide) hx1)
      have HXL := Lib.hid (made_len hx2)
      obtain ⟨ca, cc, rfl, hcr1, hcr2, _⟩ := HRT.out
      unfold maxLen at hcr2
      clear hcr hx1 hx2 hb3 H1 HG
      generalize hT : (fun i => w2.heap.size ≤ i ∧ i < w3.heap.size) = T at *
      clear hT
      generalize hL : xss.length = N at *
      have HL := Lib.hid hL; clear hL
      have HP0 : Hid ((newP 12).n = 12 ∧ (newP 12).st = [] ∧ (newP 12).cl.length ≤ 0) := ⟨by decide, rfl, Nat.le_refl _⟩
      generalize newP 12 = p0 at *
      go_wp2_with fail
      go_loopw [10] (fun i wr => ∃ (k : Nat) (p : Pr), k ≤ N ∧ i = .int .i64 (k : Int) ∧ PT w T (.pointer (some ⟨q, 0, none⟩)) p wr ∧ RowsT wr T (.slice ca N cc) xss ∧ p.n = 12 ∧ p.st = [] ∧ p.cl.length ≤ k) (fun i _ => N - (intOf i).toNat)
      case atStart => exact ⟨0, p0, Nat.zero_le _, rfl, HP.out, HRT.out, HP0.out⟩
      case round =>
        obtain ⟨k, p, hk, rfl, hP, hR, hpn, hps, hpc⟩ := hrel
        clear HP HRT HP0
        have HP := Lib.hid hP
        have HR := Lib.hid hR
        clear hP
        by_cases hlt : k < N
        · obtain ⟨a', c', e', _, _, hc⟩ := hR
          injection e' with e1 e2 e3
          subst e1; subst e3
          clear e2
          obtain ⟨b, off, ha, hbl, _, hd⟩ := hc.resolve_left (by rw [HL.out]; omega)
          subst ha
          obtain ⟨rv, y0, hrow⟩ := hd k (by rw [HL.out]; exact hlt)
          have hmem := getD_memL (l := xss) (i := k) (by rw [HL.out]; exact hlt)
          have hin := HXI.out _ hmem
          have hle := HXL.out _ hmem
          have HA := Lib.hid (pt_add HP.out rv _ hrow.row hin (by omega) (by omega))
          obtain ⟨ra, rc, rfl, _⟩ := hrow
          clear hc hd hmem hin hle
          generalize xss.getD k [] = c at *
          go_wp2_with fail
          refine HA.out.mono ?_
          rintro e w4 ⟨y, bb, p', hAR, _, rfl, hP', hK⟩
          obtain ⟨k1, k2, k3, k4⟩ := hAR.keepN
          have HP' := Lib.hid hP'
          have HR' := Lib.hid (HR.out.keep hK)
          clear hP' hK hAR HR HP HA
          go_wp2_with fail
          go_roundw
          case rel => exact ⟨k + 1, p', by omega, by go_num, HP'.out, HR'.out, by omega, by rw [k2]; exact hps, by omega⟩
          case measure => go_light; simp [intOf]; omega
        · have hkn : k = N := by omega
          have e1 : decide ((k : Int) < (N : Int)) = false := decide_eq_false (by omega)
          have e2 : decide (k < N) = false := decide_eq_false hlt
          clear hkn hlt hR
          have H2 := Lib.hid (pt_prop HP.out (by omega))
          have HPN : Hid (p.n = 12 ∧ p.st = [] ∧ p.cl.length ≤ 60) := ⟨hpn, hps, by omega⟩
          clear hpn hps hpc HP HR
          go_wp2_with fail
          refine H2.out.mono ?_
          rintro e w4 ⟨x, p1, hR, rfl, hP, _⟩
          have HBE := Lib.hid hP.bel
          by_cases hx0 : 0 ≤ x
          · have d3 : decide (0 ≤ x) = true := decide_eq_true hx0
            clear hx0 hR hP
            go_wp2_with fail
            go_ret
            exact ⟨rfl, HBE.out⟩
          · have d3 : decide (0 ≤ x) = false := decide_eq_false hx0
            have HP := Lib.hid hP.st.pt
            have HP1 : Hid (p1.n = 12 ∧ p1.st = [] ∧ p1.cl.length ≤ 60) := by
              obtain ⟨r1, r2, r3, _⟩ := hR
              exact ⟨r1.trans HPN.out.1, r3.trans HPN.out.2.1, by rw [r2]; exact HPN.out.2.2⟩
            clear hx0 hR hP HPN HBE
            go_wp2_with (at_make; refine wpList_makeN rfl _ _ rfl _ 13 rfl rfl (by omega) ?_; intro w5 hown hb5 hs5)
            have HC := Lib.hid (Cel.of_own hown (by decide))
            have HP5 : Hid (PT w (fun i => i = w4.heap.size) (.pointer (some ⟨q, 0, none⟩)) p1 w5) := HP.out.more hb5 fun i hi => .inr ⟨by omega, by omega⟩
            have HG0 : Hid (w.heap.size ≤ w4.heap.size) := HP.out.bel.size
            clear hown hb5 hs5 HP
            generalize w4.heap.size = g at *
            go_loopw [12] (fun i wr => ∃ (k : Nat) (at' : List Int), 1 ≤ k ∧ k ≤ 13 ∧ i = .int .i64 (k : Int) ∧ PT w (fun i => i = g) (.pointer (some ⟨q, 0, none⟩)) p1 wr ∧ Cel wr g at' ∧ at'.length = 13 ∧ ∀ v : Nat, 1 ≤ v → v < k → at'.getD v 0 = levP p1 (v : Int)) (fun i _ => 13 - (intOf i).toNat)
            case atStart => exact ⟨1, List.replicate 13 0, by omega, by omega, rfl, HP5.out, HC.out, by simp, fun v h1 h2 => by omega⟩
            case round =>
              obtain ⟨j, at', hj1, hj2, rfl, hP, hC, hal, hat⟩ := hrel
              clear HP5 HC
              have HP := Lib.hid hP
              have HC := Lib.hid hC
              have HAL := Lib.hid hal
              have HAT := Lib.hid hat
              clear hP hC hal hat
              by_cases hlt : j ≤ 12
              · have y0 := HC.out.cells j (by rw [HAL.out]; omega)
                have f0 := HC.out.free j
                have HV := Lib.hid (fun (W : World) (hW : PT w (fun i => i = g) (.pointer (some ⟨q, 0, none⟩)) p1 W) => hW.use fun S hS => pval_any W hS (j : Int) (by omega) (by omega))
                have HP6 : Hid (PT w (fun i => i = g) (.pointer (some ⟨q, 0, none⟩)) p1 (wr.setCell ⟨g, j, none⟩ (.int .i64 (-1)))) := HP.out.set g j _ rfl HG0.out
                have HC6 : Hid (Cel (wr.setCell ⟨g, j, none⟩ (.int .i64 (-1))) g (at'.set j (-1))) := HC.out.set j (-1)
                have hb := levP_base (p := p1) (v := j) HP1.out.2.1
                by_cases hv : valP p1 (j : Int) = 0
                · have hlv := (val_lev hj1).1 hv
                  have hd : (valP p1 (j : Int) != 0) = false := by simp [hv]
                  have HLV := Lib.hid hlv
                  clear hlv hv hb
                  generalize valP p1 (j : Int) = x9 at *
                  go_wp2_with fail
                  refine (HV.out _ HP6.out).mono ?_
                  rintro e w7 ⟨rfl, rfl⟩
                  go_wp2_with fail
                  go_roundw
                  case rel => exact ⟨j + 1, _, by omega, by omega, by go_num, HP6.out, HC6.out, by rw [List.length_set]; exact HAL.out, fun v h1 h2 => by
                    rw [getD_set]
                    by_cases e : v = j
                    · rw [if_pos ⟨e.symm, by rw [HAL.out]; omega⟩, e, HLV.out]
                    · rw [if_neg (fun hh => e hh.1.symm)]
                      exact HAT.out v h1 (by omega)⟩
                  case measure => go_light; simp [intOf]; omega
                · have hlv : levP p1 (j : Int) = 0 := hb.resolve_left (fun h => hv ((val_lev hj1).2 h))
                  have hd : (valP p1 (j : Int) != 0) = true := by simp [hv]
                  have HLV := Lib.hid hlv
                  have y1 := HC6.out.cells j (by rw [List.length_set, HAL.out]; omega)
                  have f1 := HC6.out.free j
                  have HP7 : Hid (PT w (fun i => i = g) (.pointer (some ⟨q, 0, none⟩)) p1 ((wr.setCell ⟨g, j, none⟩ (.int .i64 (-1))).setCell ⟨g, j, none⟩ (.int .i64 0))) := HP6.out.set g j _ rfl HG0.out
                  have HC7 : Hid (Cel ((wr.setCell ⟨g, j, none⟩ (.int .i64 (-1))).setCell ⟨g, j, none⟩ (.int .i64 0)) g ((at'.set j (-1)).set j 0)) := HC6.out.set j 0
                  clear hlv hv hb
                  generalize valP p1 (j : Int) = x9 at *
                  go_wp2_with fail
                  refine (HV.out _ HP6.out).mono ?_
                  rintro e w7 ⟨rfl, rfl⟩
                  go_wp2_with fail
                  go_roundw
                  case rel => exact ⟨j + 1, _, by omega, by omega, by go_num, HP7.out, HC7.out, by rw [List.length_set, List.length_set]; exact HAL.out, fun v h1 h2 => by
                    rw [getD_set]
                    by_cases e : v = j
                    · rw [if_pos ⟨e.symm, by rw [List.length_set, HAL.out]; omega⟩, e, HLV.out]
                    · rw [if_neg (fun hh => e hh.1.symm), getD_set, if_neg (fun hh => e hh.1.symm)]
                      exact HAT.out v h1 (by omega)⟩
                  case measure => go_light; simp [intOf]; omega
              · have hj13 : j = 13 := by omega
                have e1 : decide ((j : Int) ≤ 12) = false := decide_eq_false (by omega)
                have HAT' : Hid (∀ v : Nat, 1 ≤ v → v ≤ 12 → at'.getD v 0 = levP p1 (v : Int)) := fun v h1 h2 => HAT.out v h1 (by omega)
                clear hlt hj13 HAT
                have HPQ : Hid (p1.n = 12 ∧ p1.cl.length ≤ 60 ∧ p1.st.length ≤ 0) := ⟨HP1.out.1, HP1.out.2.2, by rw [HP1.out.2.1]; simp⟩
                go_upto_block 4 with fail
                clear e1
                go_cut [13, 14, 15] (fun _ _ _ W => ∃ (p2 : Pr) (at2 : List Int), PT w (fun i => i = g) (.pointer (some ⟨q, 0, none⟩)) p2 W ∧ Cel W g at2 ∧ at2.length = 13 ∧ (∀ v : Nat, 1 ≤ v → v ≤ 12 → at2.getD v 0 = levP p2 (v : Int)) ∧ p2.st.length ≤ 12)
                case first =>
                  go_wp2_with fail
                  go_loopw [13, 14, 15] (fun i _ _ W => ∃ (k2 : Nat) (p2 : Pr) (at2 : List Int), k2 ≤ m ∧ i = .int .i64 (k2 : Int) ∧ PT w (fun i => i = g) (.pointer (some ⟨q, 0, none⟩)) p2 W ∧ Cel W g at2 ∧ at2.length = 13 ∧ (∀ v : Nat, 1 ≤ v → v ≤ 12 → at2.getD v 0 = levP p2 (v : Int)) ∧ p2.st.length ≤ k2 ∧ p2.n = 12 ∧ p2.cl.length ≤ 60) (fun i _ _ _ => m - (intOf i).toNat)
                  case atStart => exact ⟨0, p1, at', Nat.zero_le _, rfl, HP.out, HC.out, HAL.out, HAT'.out, HPQ.out.2.2, HPQ.out.1, HPQ.out.2.1⟩
                  case round =>
                    obtain ⟨k2, p2, at2, hk2, rfl, hP, hC, hal, hat, hst, hpn, hpc⟩ := hrel
                    clear HP HC HAL HAT' HPQ HP1
                    have HP := Lib.hid hP
                    have HC := Lib.hid hC
                    have HAL := Lib.hid hal
                    have HAT := Lib.hid hat
                    have HPN := Lib.hid hpn
                    clear hP hC hal hat hpn
                    by_cases hlt : k2 < m
                    · obtain ⟨b, off, ha, hbl, hd⟩ := HOX.out.resolve_left (by omega)
                      subst ha
                      have y0 := (HP.out.bel.cell (p := ⟨b, off + k2, none⟩) hbl).trans (hd k2 hlt)
                      have hyb := HOI.out k2 hlt
                      clear hd
                      generalize os.getD k2 0 = y at *
                      have hxb := litOf_bd y 12 (by decide)
                      have hplc : 1 ≤ plc (litOf y 12) ∧ plc (litOf y 12) ≤ 12 := by
                        have := plc_absI (litOf y 12)
                        unfold absI at this
                        split at this <;> omega
                      have HLT := Lib.hid (lit_any y 12 wr (by decide) (by decide) hyb.1 hyb.2)
                      generalize litOf y 12 = x at *
                      have HV := Lib.hid (HP.out.use fun S hS => pval_any wr hS x (by omega) (by omega))
                      by_cases hv : valP p2 x = 0
                      · have hok : decOk p2 x = true := by unfold decOk; rw [HPN.out, decide_eq_true hplc, decide_eq_true hv]; rfl
                        have HD := Lib.hid (pt_dec HP.out x (by omega) (by omega))
                        rw [hok] at HD
                        rw [hv] at HV
                        have HOK := Lib.hid hok
                        have HW := Lib.hid HP.out.wf
                        clear hok hv hplc hxb hyb
                        go_wp2_with fail
                        refine HLT.out.mono ?_
                        rintro e w8 ⟨rfl, rfl⟩
                        go_wp2_with fail
                        refine HV.out.mono ?_
                        rintro e w8 ⟨rfl, rfl⟩
                        go_wp2_with fail
                        refine HD.out.mono ?_
                        rintro e w9 ⟨rfl, hP9, hK9⟩
                        have HC9 : Hid (Cel w9 g at2) := HC.out.keepB hK9.size (hK9.blk g rfl)
                        have HPR := Lib.hid (pt_prop hP9 (by rw [decdP_cl]; omega))
                        clear hP9 hK9 HC HP HD HV HLT y0
                        go_wp2_with fail
                        refine HPR.out.mono ?_
                        rintro e w10 ⟨r, p3, hR, rfl, hP10, hK10⟩
                        have HC10 : Hid (Cel w10 g at2) := HC9.out.keepB hK10.size (hK10.blk g rfl)
                        have HNX := Lib.hid (next_of HOK.out hR)
                        have HP10 := Lib.hid hP10
                        have HPN3 : Hid (p3.n = 12) := by obtain ⟨r1, _⟩ := hR; rw [decdP_n] at r1; exact r1.trans HPN.out
                        have hpc3 : p3.cl.length ≤ 60 := by obtain ⟨_, r2, _⟩ := hR; rw [decdP_cl] at r2; rw [r2]; exact hpc
                        have hst3 := HNX.out.len
                        clear hR hP10 hK10 HC9 HPR
                        by_cases hr : 0 ≤ r
                        · have d3 : decide (0 ≤ r) = true := decide_eq_true hr
                          have HLL := Lib.hid (HP10.out.use fun S hS => plvl_any w10 hS)
                          have HBK := Lib.hid (pt_back HP10.out ((p3.st.length : Int) - 1) (by omega) (by omega))
                          have HST3 := Lib.hid hst3
                          have hsa : 1 ≤ p3.st.length := by omega
                          have hsb : p3.st.length ≤ 13 := by omega
                          clear hr hst3
                          generalize hsl : p3.st.length = sl at *
                          have HSL := Lib.hid hsl
                          clear hsl
                          go_wp2_with fail
                          refine HLL.out.mono ?_
                          rintro e w11 ⟨rfl, rfl⟩
                          go_wp2_with fail
                          refine HBK.out.mono ?_
                          rintro e w12 ⟨rfl, hP12, hK12⟩
                          have HC12 : Hid (Cel w12 g at2) := HC10.out.keepB hK12.size (hK12.blk g rfl)
                          have HP12 := Lib.hid hP12
                          have hbk := HNX.out.back
                          rw [HSL.out] at hbk
                          have HAT12 : Hid (∀ v : Nat, 1 ≤ v → v ≤ 12 → at2.getD v 0 = levP (backP p3 ((sl : Int) - 1)) (v : Int)) := fun v h1 h2 => by
                            rw [levP_same hbk.1 hbk.2]; exact HAT.out v h1 h2
                          have HL12 : Hid ((backP p3 ((sl : Int) - 1)).st.length ≤ 12) := by unfold Hid; rw [hbk.2]; omega
                          clear hP12 hK12 hbk HST3 HSL
                          go_wp2_with fail
                          go_meet
                          exact ⟨_, at2, HP12.out, HC12.out, HAL.out, HAT12.out, HL12.out⟩
                        · have d3 : decide (0 ≤ r) = false := decide_eq_false hr
                          have HS3 : Hid (p3.st.length ≤ k2 + 1) := by unfold Hid; omega
                          have HC3 := Lib.hid hpc3
                          clear hr hst3 hpc3
                          go_wp2_with fail
                          clear d3
                          have HLL := Lib.hid (fun (W : World) (hW : PT w (fun i => i = g) (.pointer (some ⟨q, 0, none⟩)) p3 W) => hW.use fun S hS => plvl_any W hS)
                          go_loopw [15] (fun i W => ∃ (j4 : Nat) (at4 : List Int), 1 ≤ j4 ∧ j4 ≤ 13 ∧ i = .int .i64 (j4 : Int) ∧ PT w (fun i => i = g) (.pointer (some ⟨q, 0, none⟩)) p3 W ∧ Cel W g at4 ∧ at4.length = 13 ∧ (∀ v : Nat, 1 ≤ v → v < j4 → at4.getD v 0 = levP p3 (v : Int)) ∧ ∀ v : Nat, j4 ≤ v → v ≤ 12 → at4.getD v 0 = levP p2 (v : Int)) (fun i _ => 13 - (intOf i).toNat)
                          case atStart => exact ⟨1, at2, by omega, by omega, rfl, HP10.out, HC10.out, HAL.out, fun v h1 h2 => by omega, fun v h1 h2 => HAT.out v h1 h2⟩
                          case round =>
                            obtain ⟨j4, at4, hj1, hj2, rfl, hP4, hC4, hal4, hata, hatb⟩ := hrel
                            clear HP10 HC10 HAL HAT
                            have HP4 := Lib.hid hP4
                            have HC4 := Lib.hid hC4
                            have HAL4 := Lib.hid hal4
                            have HATA := Lib.hid hata
                            have HATB := Lib.hid hatb
                            clear hP4 hC4 hal4 hata hatb
                            by_cases hlt4 : j4 ≤ 12
                            · have y4 := HC4.out.cells j4 (by rw [HAL4.out]; omega)
                              rw [HATB.out j4 (Nat.le_refl _) hlt4] at y4
                              have hge := levP_ge (p := p2) j4
                              by_cases hk : levP p2 (j4 : Int) = -1
                              · have hnew := HNX.out.new HW.out hk
                                have HK := Lib.hid hk
                                rw [hk] at y4
                                have HV4 := Lib.hid (HP4.out.use fun S hS => pval_any wr hS (j4 : Int) (by omega) (by omega))
                                clear hge hk
                                by_cases hv : valP p3 (j4 : Int) = 0
                                · have hlv := (val_lev hj1).1 hv
                                  have hd : (valP p3 (j4 : Int) != 0) = false := by simp [hv]
                                  have HLV := Lib.hid hlv
                                  clear hlv hv hnew
                                  generalize valP p3 (j4 : Int) = x9 at *
                                  go_wp2_with fail
                                  refine HV4.out.mono ?_
                                  rintro e w7 ⟨rfl, rfl⟩
                                  go_wp2_with fail
                                  go_roundw
                                  case rel => exact ⟨j4 + 1, at4, by omega, by omega, by go_num, HP4.out, HC4.out, HAL4.out, fun v h1 h2 => by
                                    by_cases e : v = j4
                                    · rw [e, HLV.out, HATB.out j4 (Nat.le_refl _) hlt4]
                                      exact HK.out
                                    · exact HATA.out v h1 (by omega), fun v h1 h2 => HATB.out v (by omega) h2⟩
                                  case measure => go_light; simp [intOf]; omega
                                · have hlv : levP p3 (j4 : Int) = (p3.st.length : Int) := hnew.resolve_left (fun h => hv ((val_lev hj1).2 h))
                                  have hd : (valP p3 (j4 : Int) != 0) = true := by simp [hv]
                                  have HLV := Lib.hid hlv
                                  have f4 := HC4.out.free j4
                                  have HP7 : Hid (PT w (fun i => i = g) (.pointer (some ⟨q, 0, none⟩)) p3 (wr.setCell ⟨g, j4, none⟩ (.int .i64 (p3.st.length : Int)))) := HP4.out.set g j4 _ rfl HG0.out
                                  have HC7 : Hid (Cel (wr.setCell ⟨g, j4, none⟩ (.int .i64 (p3.st.length : Int))) g (at4.set j4 (p3.st.length : Int))) := HC4.out.set j4 _
                                  have HLQ := Lib.hid (HLL.out wr HP4.out)
                                  clear hlv hv hnew
                                  generalize valP p3 (j4 : Int) = x9 at *
                                  generalize hsl : (p3.st.length : Int) = sl at *
                                  clear hsl
                                  go_wp2_with fail
                                  refine HV4.out.mono ?_
                                  rintro e w7 ⟨rfl, rfl⟩
                                  go_wp2_with fail
                                  refine HLQ.out.mono ?_
                                  rintro e w7 ⟨rfl, rfl⟩
                                  go_wp2_with fail
                                  go_roundw
                                  case rel => exact ⟨j4 + 1, _, by omega, by omega, by go_num, HP7.out, HC7.out, by rw [List.length_set]; exact HAL4.out, fun v h1 h2 => by
                                    rw [getD_set]
                                    by_cases e : v = j4
                                    · rw [if_pos ⟨e.symm, by rw [HAL4.out]; omega⟩, e, HLV.out]
                                    · rw [if_neg (fun hh => e hh.1.symm)]
                                      exact HATA.out v h1 (by omega), fun v h1 h2 => by
                                    rw [getD_set, if_neg (fun hh => by omega)]
                                    exact HATB.out v (by omega) h2⟩
                                  case measure => go_light; simp [intOf]; omega
                              · have hold := HNX.out.old HW.out hk
                                have HOLD := Lib.hid hold
                                have HB4 := Lib.hid (HATB.out j4 (Nat.le_refl _) hlt4)
                                have hA : 0 ≤ levP p2 (j4 : Int) := by omega
                                clear hold hk hge
                                generalize levP p2 (j4 : Int) = A at *
                                have hd : decide (A < 0) = false := decide_eq_false (by omega)
                                go_wp2_with fail
                                go_roundw
                                case rel => exact ⟨j4 + 1, at4, by omega, by omega, by go_num, HP4.out, HC4.out, HAL4.out, fun v h1 h2 => by
                                  by_cases e : v = j4
                                  · rw [e, HB4.out, HOLD.out]
                                  · exact HATA.out v h1 (by omega), fun v h1 h2 => HATB.out v (by omega) h2⟩
                                case measure => go_light; simp [intOf]; omega
                            · have e4 : decide ((j4 : Int) ≤ 12) = false := decide_eq_false (by omega)
                              have HAT4 : Hid (∀ v : Nat, 1 ≤ v → v ≤ 12 → at4.getD v 0 = levP p3 (v : Int)) := fun v h1 h2 => HATA.out v h1 (by omega)
                              clear hlt4
                              go_wp2_with fail
                              go_roundw
                              case rel => exact ⟨k2 + 1, p3, at4, by omega, by go_num, HP4.out, HC4.out, HAL4.out, HAT4.out, HS3.out, HPN3.out, HC3.out⟩
                              case measure => go_light; simp [intOf]; omega
                      · have hd : (valP p2 x != 0) = true := by simp [hv]
                        clear hv hxb hyb hplc
                        generalize valP p2 x = x9 at *
                        go_wp2_with fail
                        refine HLT.out.mono ?_
                        rintro e w8 ⟨rfl, rfl⟩
                        go_wp2_with fail
                        refine HV.out.mono ?_
                        rintro e w8 ⟨rfl, rfl⟩
                        go_wp2_with fail
                        go_roundw
                        case rel => exact ⟨k2 + 1, p2, at2, by omega, by go_num, HP.out, HC.out, HAL.out, HAT.out, by omega, HPN.out, hpc⟩
                        case measure => go_light; simp [intOf]; omega
                    · have e1 : decide ((k2 : Int) < (m : Int)) = false := decide_eq_false (by omega)
                      have e2 : decide (k2 < m) = false := decide_eq_false hlt
                      clear hlt
                      go_wp2_with fail
                      go_meet
                      exact ⟨p2, at2, HP.out, HC.out, HAL.out, HAT.out, by omega⟩
                case rest =>
                  obtain ⟨p2, at2, hP, hC, hal, hat, hst⟩ := hcut
                  clear HP HC HAL HAT' HPQ HP1
                  have HP := Lib.hid hP
                  have HC := Lib.hid hC
                  have HAL := Lib.hid hal
                  have HAT := Lib.hid hat
                  have HW := Lib.hid hP.wf
                  have HLL := Lib.hid (hP.use fun S hS => plvl_any wc hS)
                  clear hP hC hal hat
                  have HBL : Hid (∀ K : Nat, K ≤ p2.st.length → (backP p2 (K : Int)).st.length = K) := fun K hK => back_len hK
                  generalize hsl : p2.st.length = sl at *
                  have HSL := Lib.hid hsl
                  clear hsl
                  obtain ⟨K, hK, hK1⟩ : ∃ K : Nat, back % ((sl : Int) + 1) = (K : Int) ∧ K ≤ sl := by
                    have h1 := Int.emod_nonneg back (show ((sl : Int) + 1) ≠ 0 by omega)
                    have h2 := Int.emod_lt_of_pos back (show (0 : Int) < (sl : Int) + 1 by omega)
                    exact ⟨(back % ((sl : Int) + 1)).toNat, by omega, by omega⟩
                  have HNB := Lib.hid (number_any back ((sl : Int) + 1) wc (by omega) (by omega) hb1 hb2)
                  rw [hK] at HNB
                  have HBK := Lib.hid (pt_back HP.out (K : Int) (by omega) (by omega))
                  have HPL := Lib.hid (HBL.out K hK1)
                  clear hK hb1 hb2 HBL
                  go_wp2_with fail
                  refine HLL.out.mono ?_
                  rintro e w8 ⟨rfl, rfl⟩
                  go_wp2_with fail
                  refine HNB.out.mono ?_
                  rintro e w8 ⟨rfl, rfl⟩
                  go_wp2_with fail
                  refine HBK.out.mono ?_
                  rintro e w9 ⟨rfl, hP9, hK9⟩
                  have HC9 : Hid (Cel w9 g at2) := HC.out.keepB hK9.size (hK9.blk g rfl)
                  have HP9 := Lib.hid hP9
                  have HLB : Hid (∀ v : Nat, levP (backP p2 (K : Int)) (v : Int) = if 0 ≤ levP p2 (v : Int) ∧ levP p2 (v : Int) ≤ (K : Int) then levP p2 (v : Int) else -1) := fun v => lev_back HW.out v
                  clear hP9 hK9 HP HC HBK HLL HNB HW
                  generalize backP p2 (K : Int) = pb at *
                  go_wp2_with fail
                  go_loopw [17, 18] (fun i _ W => ∃ j5 : Nat, 1 ≤ j5 ∧ j5 ≤ 13 ∧ i = .int .i64 (j5 : Int) ∧ PT w (fun i => i = g) (.pointer (some ⟨q, 0, none⟩)) pb W ∧ Cel W g at2) (fun i _ _ => 13 - (intOf i).toNat)
                  case atStart => exact ⟨1, by omega, by omega, rfl, HP9.out, HC9.out⟩
                  case round =>
                    obtain ⟨j5, hj1, hj2, rfl, hP, hC⟩ := hrel
                    clear HP9 HC9
                    have HP := Lib.hid hP
                    have HC := Lib.hid hC
                    clear hP hC
                    by_cases hlt : j5 ≤ 12
                    · have y5 := HC.out.cells j5 (by rw [HAL.out]; omega)
                      rw [HAT.out j5 hj1 hlt] at y5
                      have hlb := HLB.out j5
                      have hge := levP_ge (p := p2) j5
                      have hvl := val_lev (p := pb) hj1
                      have HPD : Hid (∀ t, PT w (fun i => i = g) (.pointer (some ⟨q, 0, none⟩)) pb (wr.drewN t)) := fun t => HP.out.keep (below_draws ⟨t, rfl⟩)
                      have HCD : Hid (∀ t, Cel (wr.drewN t) g at2) := fun t => HC.out.keep (below_draws ⟨t, rfl⟩)
                      have HVV := Lib.hid (fun t => (HPD.out t).use fun S hS => pval_any (wr.drewN t) hS (j5 : Int) (by omega) (by omega))
                      have HLE := Lib.hid (fun t => (HPD.out t).use fun S hS => plev_any (wr.drewN t) hS (j5 : Int) (by omega) (by omega))
                      generalize levP p2 (j5 : Int) = A at *
                      generalize levP pb (j5 : Int) = B at *
                      generalize valP pb (j5 : Int) = x9 at *
                      by_cases hA : 0 ≤ A
                      · by_cases hAK : A ≤ (K : Int)
                        · rw [if_pos ⟨hA, hAK⟩] at hlb
                          subst hlb
                          have hx : x9 ≠ 0 := fun h => by have := hvl.1 h; omega
                          have b1 : decide (0 ≤ B) = true := decide_eq_true hA
                          have b2 : decide (B ≤ (K : Int)) = true := decide_eq_true hAK
                          have b3 : (x9 != 0) = true := by simp [hx]
                          have b4 : (B != B) = false := by simp
                          clear hx hvl hge
                          go_wp2_with fail
                          go_quiet (first
                            | (go_at_call 15; refine (HVV.out _).mono ?_; rintro e w' ⟨rfl, rfl⟩; exact ⟨rfl, _, rfl⟩)
                            | (go_at_call 25; refine (HLE.out _).mono ?_; rintro e w' ⟨rfl, rfl⟩; exact ⟨rfl, _, rfl⟩))
                          go_wp2_with fail
                          go_roundw
                          case rel => exact ⟨j5 + 1, by omega, by omega, by go_num, HPD.out _, HCD.out _⟩
                          case measure => go_light; simp [intOf]; omega
                        · rw [if_neg (fun h => hAK h.2)] at hlb
                          subst hlb
                          have hx : x9 = 0 := hvl.2 rfl
                          subst hx
                          have b1 : decide (0 ≤ A) = true := decide_eq_true hA
                          have b2 : decide (A ≤ (K : Int)) = false := decide_eq_false hAK
                          clear hvl hge
                          go_wp2_with fail
                          go_quiet (first
                            | (go_at_call 15; refine (HVV.out _).mono ?_; rintro e w' ⟨rfl, rfl⟩; exact ⟨rfl, _, rfl⟩)
                            | (go_at_call 25; refine (HLE.out _).mono ?_; rintro e w' ⟨rfl, rfl⟩; exact ⟨rfl, _, rfl⟩))
                          go_wp2_with fail
                          go_roundw
                          case rel => exact ⟨j5 + 1, by omega, by omega, by go_num, HPD.out _, HCD.out _⟩
                          case measure => go_light; simp [intOf]; omega
                      · rw [if_neg (fun h => hA h.1)] at hlb
                        subst hlb
                        have hx : x9 = 0 := hvl.2 rfl
                        subst hx
                        have b1 : decide (0 ≤ A) = false := decide_eq_false hA
                        clear hvl hge
                        go_wp2_with fail
                        go_quiet (first
                          | (go_at_call 15; refine (HVV.out _).mono ?_; rintro e w' ⟨rfl, rfl⟩; exact ⟨rfl, _, rfl⟩)
                          | (go_at_call 25; refine (HLE.out _).mono ?_; rintro e w' ⟨rfl, rfl⟩; exact ⟨rfl, _, rfl⟩))
                        go_wp2_with fail
                        go_roundw
                        case rel => exact ⟨j5 + 1, by omega, by omega, by go_num, HPD.out _, HCD.out _⟩
                        case measure => go_light; simp [intOf]; omega
                    · have e5 : decide ((j5 : Int) ≤ 12) = false := decide_eq_false (by omega)
                      have HLQ := Lib.hid (HP.out.use fun S hS => plvl_any wr hS)
                      rw [HPL.out] at HLQ
                      have HBE := Lib.hid HP.out.bel
                      clear hlt
                      go_wp2_with fail
                      refine HLQ.out.mono ?_
                      rintro e w8 ⟨rfl, rfl⟩
                      go_wp2_with fail
                      go_ret
                      exact ⟨rfl, HBE.out⟩
end Go.Proofs.Ytkjaepcdhclmfaa
