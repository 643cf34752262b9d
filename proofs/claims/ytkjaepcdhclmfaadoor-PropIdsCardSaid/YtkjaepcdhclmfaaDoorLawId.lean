/- The walk of skolemlaw15.PropIds: it answers true. Conditions: the arguments are 64-bit ints; the literals lie in memory. -/
import Derived.Test.YtkjaepcdhclmfaaDoorIdP
import Derived.Test.YtkjaepcdhclmfaaDoorPrM
import Derived.Deep.LoopGhost
import Derived.Deep.CutBlock
import Derived.Deep.DeepCutAuto
set_option linter.unusedVariables false
set_option linter.unusedSimpArgs false
namespace Go.Proofs.YtkjaepcdhclmfaaDoor
open Go.RowKit

theorem ok_a9 {p : Pr} {i : Nat} (h : IdI p i) {a : Int} (ha : 1 ≤ plc a ∧ plc a ≤ 8) : addOk p.n [a, 9] = true ∧ addOk p.n [a, -a] = false := by
  rw [h.n]
  have e := plc_abs a
  unfold absI at e
  constructor
  · unfold addOk
    rw [decide_eq_true_iff]
    intro x hx
    simp only [List.mem_cons, List.not_mem_nil, or_false] at hx
    rcases hx with rfl | rfl
    · refine ⟨⟨ha.1, by omega⟩, ?_⟩
      simp only [List.mem_cons, List.not_mem_nil, or_false, not_or]
      constructor <;> (split at e <;> omega)
    · refine ⟨⟨by decide, by decide⟩, ?_⟩
      simp only [List.mem_cons, List.not_mem_nil, or_false, not_or]
      constructor <;> (split at e <;> omega)
  · unfold addOk
    rw [decide_eq_false_iff_not]
    intro h
    exact (h a (by simp)).2 (by simp)
set_option maxRecDepth 8000 in
set_option maxHeartbeats 16000000 in
theorem lawId (la : Option Addr) (lc : Nat) (ls : List Int) (k : Int) (w : World) (hl : RowAt w la lc ls)
    (hli : ∀ y ∈ ls, -9223372036854775808 ≤ y ∧ y ≤ 9223372036854775807) (hk1 : -9223372036854775808 ≤ k) (hk2 : k ≤ 9223372036854775807) :
    Calls Tryd.prog 3 #[.slice la ls.length lc, .int .i64 k] w fun e w' => e = .returned (.bool true) ∧ Below w.heap.size w w' := by
  have HRL : Hid (∀ V, Below w.heap.size w V → RowAt V la lc ls) := fun V hV => hl.keep hV
  obtain ⟨hl1, hl2, hl3⟩ := hl
  unfold maxLen at hl2
  clear hl3
  have HLI := Lib.hid hli; clear hli
  generalize hn : ls.length = N at *
  have HN := Lib.hid hn; clear hn
  by_cases g1 : 20 < N
  · have d1 : decide ((20 : Int) < (N : Int)) = true := decide_eq_true (by omega)
    clear g1
    go_enter Tryd.func3, Tryd.ntmps3
    go_wp2_with (go_at_call 4; refine (first15_any _).mono ?_; rintro e w1 ⟨rfl, hb⟩)
    go_ret
    exact ⟨rfl, hb⟩
  · have d1 : decide ((20 : Int) < (N : Int)) = false := decide_eq_false (by omega)
    have hn20 : N ≤ 20 := by omega
    clear g1
    go_enter Tryd.func3, Tryd.ntmps3
    go_wp2_with fail
    refine (first15_any _).mono ?_
    rintro e w1 ⟨rfl, hb⟩
    have H0 := Lib.hid (ps_new hb 9 (by decide) (by decide))
    clear hb
    go_wp2_with fail
    refine H0.out.mono ?_
    rintro e w2 ⟨u, rfl, hG⟩
    obtain ⟨q, rfl⟩ := hG.ptr
    have HG := Lib.hid hG
    clear hG H0
    go_wp2_with fail
    go_loopw [7, 8] (fun u7 u8 wr => ∃ (j : Nat) (p : Pr), j ≤ N ∧ u7 = .int .i64 (j : Int) ∧ u8 = .int .i64 (j : Int) ∧ PSt w (.pointer (some ⟨q, 0, none⟩)) p wr ∧ IdI p j) (fun _ u8 _ => N - (intOf u8).toNat)
    case atStart => exact ⟨0, _, by omega, rfl, rfl, HG.out, IdI.start⟩
    case round =>
      obtain ⟨j, p, hj, rfl, rfl, hG, hI⟩ := hrel
      have HG1 := Lib.hid hG
      have HI1 := Lib.hid hI
      clear hG hI
      by_cases hjl : j < N
      · obtain ⟨_, _, h3⟩ := HRL.out _ HG1.out.bel
        obtain ⟨b, off, rfl, hlt, hc⟩ := h3.resolve_left (by rw [HN.out]; omega)
        have x6 := hc j (by rw [HN.out]; exact hjl)
        have hyb := HLI.out _ (getD_mem (show j < ls.length by rw [HN.out]; exact hjl))
        obtain ⟨y, hy⟩ : ∃ y, ls.getD j 0 = y := ⟨_, rfl⟩
        rw [hy] at x6 hyb
        clear hy hc hlt h3
        have hb8 := litOf_bd y 8 (by omega)
        have HL := Lib.hid (lit_any y 8 wr (by decide) (by decide) hyb.1 hyb.2)
        generalize litOf y 8 = a at *
        have hpl : 1 ≤ plc a ∧ plc a ≤ 8 := by
          have e := plc_abs a
          unfold absI at e
          split at e <;> omega
        obtain ⟨ok1, ok2⟩ := ok_a9 HI1.out hpl
        have H1 := Lib.hid (ps_add (HG1.out.alloc _) _ [a, 9] (row2 wr a 9) (by intro x hx; simp at hx; rcases hx with rfl | rfl <;> omega) (by simp) (by rw [HI1.out.len]; omega) ok1)
        rw [HI1.out.len] at H1
        have OK2 := Lib.hid ok2
        clear ok1 ok2
        go_wp2_with fail
        refine HL.out.mono ?_
        rintro e w' ⟨rfl, rfl⟩
        go_wp2_with fail
        refine H1.out.mono ?_
        rintro e w4 ⟨c, hc, rfl, hG⟩
        have HI2 := Lib.hid (HI1.out.add (nrm_two (by omega) hc))
        have H2 := Lib.hid (ps_addN (hG.alloc _) _ [a, -a] (row2 w4 a (-a)) (by intro x hx; simp at hx; rcases hx with rfl | rfl <;> omega) (by simp) (by rw [HI2.out.len]; omega) OK2.out)
        clear hc hG H1 HL
        go_wp2_with fail
        refine H2.out.mono ?_
        rintro e w5 ⟨x, rfl, hG⟩
        have HG5 := Lib.hid hG
        clear hG H2
        go_wp2_with fail
        go_roundw
        case rel => exact ⟨j + 1, _, by omega, by go_num, by go_num, HG5.out, HI2.out⟩
        case measure => go_light; simp [intOf]; omega
      · have hje : j = N := by omega
        subst hje
        have H1 := Lib.hid (ps_addN (HG1.out.alloc _) _ [10] (row1 wr 10) (by intro x hx; simp at hx; omega) (by simp) (by rw [HI1.out.len]; omega) (by rw [HI1.out.n]; decide))
        go_wp2_with fail
        refine H1.out.mono ?_
        rintro e w4 ⟨x, rfl, hG⟩
        have H2 := Lib.hid (ps_prop hG (by rw [HI1.out.len]; omega))
        clear hG H1
        go_wp2_with fail
        refine H2.out.mono ?_
        rintro e w5 ⟨x2, p1, hR, rfl, hG⟩
        obtain ⟨rfl, hI⟩ := HI1.out.prop hR
        have HI2 := Lib.hid hI
        have HG2 := Lib.hid hG
        clear hI hG hR H2 HG1 HI1
        by_cases h0 : j = 0
        · subst h0
          go_wp2_with fail
          go_ret
          exact ⟨rfl, HG2.out.bel⟩
        · have hj0 : 0 < (j : Int) := by omega
          obtain ⟨kk, hkk, hkj⟩ : ∃ kk : Nat, k % (j : Int) = (kk : Int) ∧ kk < j := ⟨(k % (j : Int)).toNat, by have := Int.emod_nonneg k (show (j : Int) ≠ 0 by omega); omega, by have := Int.emod_lt_of_pos k hj0; have := Int.emod_nonneg k (show (j : Int) ≠ 0 by omega); omega⟩
          have HK := Lib.hid (number_any k (j : Int) w5 hj0 (by omega) hk1 hk2)
          rw [hkk] at HK
          clear hkk
          go_wp2_with fail
          refine HK.out.mono ?_
          rintro e w' ⟨rfl, rfl⟩
          obtain ⟨d1', d2', d3', d4'⟩ := HI2.out.drop hkj
          obtain ⟨c0, hc0, hc1, hc2⟩ := HI2.out.two kk hkj
          have HC := Lib.hid (HG2.out.use fun S hS => pcls_any w5 hS (kk : Int) (by omega) (by omega))
          rw [if_neg (by omega), Int.toNat_natCast, hc0] at HC
          have HLC : Hid (c0.length = 2) := hc2
          have hcl : kk < p1.cl.length := by rw [HI2.out.len]; exact hkj
          have HSET : Hid ((p1.cl.set kk none).length = j) := by unfold Hid; rw [List.length_set]; exact HI2.out.len
          have HGONE := Lib.hid (fun (c : List Int) => gone_get (p := p1) (k := kk) (c := c) hcl)
          have HN9 := Lib.hid HI2.out.n
          obtain ⟨p2, hp2⟩ : ∃ p2 : Pr, { p1 with cl := p1.cl.set kk none } = p2 := ⟨_, rfl⟩
          have h2n : p2.n = 9 := by rw [← hp2]; exact HN9.out
          have h2l : p2.cl.length = j := by rw [← hp2]; exact HSET.out
          rw [hp2] at d2' d3' d4' HGONE
          have HP2 := Lib.hid h2n
          have HL2 := Lib.hid h2l
          have DD := Lib.hid d1'
          have DE := Lib.hid d2'
          have DF := Lib.hid d3'
          have DG := Lib.hid d4'
          clear hp2 h2n h2l d1' d2' d3' d4' hc0 hc1 hc2 hcl HN9 HSET HK
          go_wp2_with fail
          refine HC.out.mono ?_
          rintro e w6 ⟨u16, c6, rfl, hr6, hp6, hb6⟩
          have hl6 : c6.length = 2 := by rw [hp6.length_eq]; exact HLC.out
          obtain ⟨a6, k6, rfl, _⟩ := hr6
          rw [hl6]
          have H3 := Lib.hid (ps_drop (HG2.out.keep hb6) (kk : Int) (by omega) (by omega))
          rw [DD.out, DE.out] at H3
          clear hp6 hb6 hl6 HC HG2
          go_wp2_with fail
          refine H3.out.mono ?_
          rintro e w7 ⟨rfl, hG⟩
          have H4 := Lib.hid (ps_drop hG (kk : Int) (by omega) (by omega))
          rw [DF.out, DG.out] at H4
          clear hG H3
          go_wp2_with fail
          refine H4.out.mono ?_
          rintro e w8 ⟨rfl, hG⟩
          have H5 := Lib.hid (ps_add (hG.alloc _) _ [1, 2, 9] (row3 w8 1 2 9) (by intro x hx; simp at hx; rcases hx with rfl | rfl | rfl <;> omega) (by simp) (by rw [HL2.out]; omega) (by rw [HP2.out]; decide))
          rw [HL2.out] at H5
          clear hG H4
          go_wp2_with fail
          refine H5.out.mono ?_
          rintro e w9 ⟨c9, _, rfl, hG⟩
          have h3n : (addP p2 c9).n = 9 := HP2.out
          have h3l : (addP p2 c9).cl.length = j + 1 := by show (p2.cl ++ [some c9]).length = _; rw [List.length_append, HL2.out]; rfl
          have hgo := HGONE.out c9
          generalize addP p2 c9 = p3 at *
          have HP3 := Lib.hid h3n
          have HL3 := Lib.hid h3l
          have HC2 := Lib.hid (hG.use fun S hS => pcls_any w9 hS (kk : Int) (by omega) (by omega))
          rw [if_neg (by omega), Int.toNat_natCast, hgo] at HC2
          have HG9 := Lib.hid hG
          clear hG H5 h3n h3l hgo
          go_wp2_with fail
          refine HC2.out.mono ?_
          rintro e w10 ⟨u21, c10, rfl, hr10, hp10, hb10⟩
          have hl10 : c10.length = 0 := by rw [hp10.length_eq]; rfl
          obtain ⟨a10, k10, rfl, _⟩ := hr10
          rw [hl10]
          have H6 := Lib.hid (ps_add ((HG9.out.keep hb10).alloc _) _ [-9] (row1 w10 (-9)) (by intro x hx; simp at hx; omega) (by simp) (by rw [HL3.out]; omega) (by rw [HP3.out]; decide))
          rw [HL3.out] at H6
          clear hp10 hb10 hl10 HC2 HG9
          go_wp2_with fail
          refine H6.out.mono ?_
          rintro e w11 ⟨c11, _, rfl, hG⟩
          have h4l : (addP p3 c11).cl.length = j + 2 := by show (p3.cl ++ [some c11]).length = _; rw [List.length_append, HL3.out]; rfl
          generalize addP p3 c11 = p4 at *
          have HL4 := Lib.hid h4l
          have H7 := Lib.hid (ps_prop hG (by rw [HL4.out]; omega))
          clear hG H6 h4l
          go_wp2_with fail
          refine H7.out.mono ?_
          rintro e w12 ⟨x12, p5, hR, rfl, hG⟩
          have HG12 := Lib.hid hG
          have HL5 : Hid (p5.cl.length = j + 2) := by unfold Hid; rw [hR.2.1]; exact HL4.out
          have hx12 : x12 = -1 ∨ 0 ≤ x12 := by
            rcases hR.2.2.2.2.2 with ⟨e, _⟩ | ⟨k', _, e, _⟩
            · exact .inl e
            · right; omega
          clear hG hR H7
          rcases hx12 with rfl | hx12
          · go_wp2_with fail
            go_loopw [24, 25] (fun u24 u25 W => ∃ (v : Nat), 1 ≤ v ∧ v ≤ 9 ∧ u24 = .bool false ∧ u25 = .int .i64 (v : Int) ∧ PSt w (.pointer (some ⟨q, 0, none⟩)) p5 W) (fun _ u25 _ => 9 - (intOf u25).toNat)
            case atStart => exact ⟨1, by omega, by omega, rfl, rfl, HG12.out⟩
            case round =>
              obtain ⟨v, hv1, hv9, rfl, rfl, hG⟩ := hrel
              have HGV := Lib.hid hG
              clear hG
              by_cases hv8 : v ≤ 8
              · have HRE := Lib.hid (HGV.out.use fun S hS => prea_any wr hS (v : Int) (by omega) (by omega))
                have hbd := rea_bd HGV.out.wf (v : Int)
                have hrd := fun h => rea_drop (p := p5) (v := (v : Int)) h
                generalize reaP p5 (v : Int) = r at *
                rw [HL5.out] at hbd
                by_cases hr0 : 0 ≤ r
                · obtain ⟨k1, k2⟩ := hrd hr0
                  have HD := Lib.hid (ps_drop HGV.out r (by omega) (by omega))
                  rw [k1, k2] at HD
                  clear hrd k1 k2
                  go_wp2_with fail
                  refine HRE.out.mono ?_
                  rintro e w' ⟨rfl, rfl⟩
                  go_wp2_with fail
                  refine HD.out.mono ?_
                  rintro e w13 ⟨rfl, hG⟩
                  have HG13 := Lib.hid hG
                  clear hG HD HRE
                  go_wp2_with fail
                  go_roundw
                  case rel => exact ⟨v + 1, by omega, by omega, rfl, by go_num, HG13.out⟩
                  case measure => go_light; simp [intOf]; omega
                · clear hrd
                  go_wp2_with fail
                  refine HRE.out.mono ?_
                  rintro e w' ⟨rfl, rfl⟩
                  go_wp2_with fail
                  go_roundw
                  case rel => exact ⟨v + 1, by omega, by omega, rfl, by go_num, HGV.out⟩
                  case measure => go_light; simp [intOf]; omega
              · have hve : v = 9 := by omega
                go_wp2_with fail
                refine (bytes_nil _).mono ?_
                rintro e w' ⟨rfl, rfl⟩
                have hnil : ∀ V : World, (binOp .eql 33 (.slice none 0 0) (.slice none 0 0)).run Tryd.prog V = .ok (.bool true) V := eqN_8 none 0 0
                go_wp2_with fail
                go_ret
                exact ⟨rfl, HGV.out.bel⟩
          · go_wp2_with fail
            go_ret
            exact ⟨rfl, HG12.out.bel⟩
end Go.Proofs.YtkjaepcdhclmfaaDoor
