/- Contract of skolemref1.Split: the words ('wordsL'). Conditions: the slice reads as bytes, and is not too long. -/
import Derived.Test.YtcefeidfmnggaaaDoorSplit
import Derived.Deep.DeepCutAuto
import Derived.Deep.CutBlock
import Derived.Deep.LoopGhost
namespace Go.Proofs.YtcefeidfmnggaaaDoor
open Go.RowKit

set_option maxRecDepth 4000 in
set_option maxHeartbeats 4000000 in
theorem refSplit_any (v : Value) (xs : List Int) (cm : Bool) (w : World) (hv : RowG (Value.int .u8) 0 w v xs) (hb : Bts xs) (hn : xs.length ≤ 4000000) :
    Calls Tryd.prog 20 #[v, .bool cm] w (SplitPost 55 w (wordsL cm xs)) := by
  obtain ⟨a, c, rfl, hxc, hcm, hx⟩ := hv
  have HX := Lib.hid hx; clear hx
  have HB := Lib.hid hb
  have hcm2 : c ≤ 9223372036854775807 := by unfold maxLen at hcm; omega
  clear hcm
  generalize hN : xs.length = n at *
  have HN := Lib.hid hN; clear hN
  clear hb
  go_enter Tryd.func20, Tryd.ntmps20
  go_wp2_with fail
  go_loopw [5, 6, 7, 8, 9] (fun v fv sv i _ wr => ∃ (k : Nat) (f s : Bool) (ws : List (List Int × Nat × Bool)), k ≤ n ∧ i = .int .i64 k ∧ fv = .bool f ∧ sv = .bool s ∧ wr.ownsRow w.heap.size 55 3 v ws.length (ws.flatMap wcells) ∧ Below w.heap.size w wr ∧ ws.length ≤ k ∧ Hid (ws ++ splitL cm k f s (xs.drop k) = wordsL cm xs)) (fun _ _ _ i _ _ => n - (intOf i).toNat)
  case atStart => exact ⟨0, true, false, [], Nat.zero_le _, rfl, rfl, rfl, World.ownsRow_nil _ _ _ _, Below.refl _ _, Nat.le_refl _, rfl⟩
  case round =>
    obtain ⟨k, f, s, ws, hk, rfl, rfl, rfl, hown, hbr, hwk, HQ⟩ := hrel
    by_cases hlt : k < n
    · obtain ⟨b, off, ha, hbl, hc⟩ := HX.out.resolve_left (by omega)
      subst ha
      have hcr : ∀ i, i < n → wr.cell? ⟨b, off + i, none⟩ = some (.int .u8 (xs.getD i 0)) := fun i hi => (hbr.cell (p := ⟨b, off + i, none⟩) hbl).trans (hc i hi)
      have g1 : wr.cell? ⟨b, off + k, none⟩ = some (.int .u8 (xs.getD k 0)) := hcr k hlt
      have HNLS := Lib.hid (step_nl cm xs k f s (by rw [HN.out]; exact hlt))
      have HBLS := Lib.hid (step_blank cm xs k f s (by rw [HN.out]; exact hlt))
      have HW := Lib.hid (fun j => step_word cm xs k j f s (by rw [HN.out]; exact hlt))
      have HCV := Lib.hid (fun (j : Nat) (hj : j ≤ n - k) => run_convert_bytes_arg (P := Tryd.prog) wr 22 5 Tryd.underlying22 Tryd.underlying5 b (off + k) j (c - k) ((xs.drop k).take j) (by rw [List.length_take, List.length_drop, HN.out]; omega) (fun i hi => by rw [Nat.add_assoc, hcr (k + i) (by omega)]; simp [List.getD, hi]) 9 Tryd.underlying9)
      have HCR := Lib.hid hcr
      clear hcr hc
      have HBK := Lib.hid (fun W => blank_any (xs.getD k 0) W)
      generalize hy : xs.getD k 0 = y at *
      have HY := Lib.hid hy; clear hy
      by_cases hnl : y = 10
      · subst hnl
        have HQ' := Lib.hid (show ws ++ splitL cm (k + 1) true false (xs.drop (k + 1)) = wordsL cm xs by rw [← HNLS.out rfl]; exact HQ.out)
        clear HNLS HBLS HW HBK HCV HQ
        go_wp2_with fail
        go_roundw
        case rel => exact ⟨k + 1, true, false, ws, by omega, by go_num, rfl, rfl, hown, hbr, by omega, HQ'.out⟩
        case measure => simp [intOf]; omega
      · have hnlb : (y == 10) = false := by simp [hnl]
        cases hbk : blankB y with
        | true =>
          rw [hbk] at HBK
          have HQ' := Lib.hid (show ws ++ splitL cm (k + 1) f s (xs.drop (k + 1)) = wordsL cm xs by rw [← HBLS.out hbk]; exact HQ.out)
          clear HNLS HBLS HW HCV HQ
          go_wp2_with (go_at_call 40; refine (HBK.out _).mono ?_; rintro e w' ⟨rfl, rfl⟩)
          go_roundw
          case rel => exact ⟨k + 1, f, s, ws, by omega, by go_num, rfl, rfl, hown, hbr, by omega, HQ'.out⟩
          case measure => simp [intOf]; omega
        | false =>
          rw [hbk] at HBK
          have HGF := Lib.hid (show gapB y = false by rw [gap_parts, hbk, Bool.or_false]; exact decide_eq_false hnl)
          clear HNLS HBLS hbk
          have hck : ¬ c = k := by omega
          have hBB := hbr.size
          go_upto_block 3 with (go_at_call 40; refine (HBK.out _).mono ?_; rintro e w' ⟨rfl, rfl⟩)
          go_cut [9] (fun jv w2 => ∃ j : Nat, jv = .int .i64 j ∧ w2 = wr ∧ k ≤ j ∧ j ≤ n ∧ Hid ((∀ i, k ≤ i → i < j → gapB (xs.getD i 0) = false) ∧ (j = n ∨ gapB (xs.getD j 0) = true)))
          case first =>
            go_wp2_with fail
            go_loopg [9] (n - k) (fun gh jv w2 => ∃ j : Nat, jv = .int .i64 j ∧ gh = n - j ∧ w2 = wr ∧ k ≤ j ∧ j ≤ n ∧ Hid (∀ i, k ≤ i → i < j → gapB (xs.getD i 0) = false))
            case atStart => exact ⟨k, rfl, rfl, rfl, Nat.le_refl _, by omega, fun i h1 h2 => by omega⟩
            case round =>
              obtain ⟨j, rfl, rfl, rfl, hkj, hj, HJ⟩ := hrel
              by_cases hjn : j < n
              · have g2 : wr.cell? ⟨b, off + j, none⟩ = some (.int .u8 (xs.getD j 0)) := HCR.out j hjn
                have HZ := Lib.hid (fun W => blank_any (xs.getD j 0) W)
                have HST := Lib.hid (fun (h : gapB (xs.getD j 0) = false) => show ∀ i, k ≤ i → i < j + 1 → gapB (xs.getD i 0) = false from fun i h1 h2 => by
                  by_cases e : i = j
                  · rw [e]; exact h
                  · exact HJ.out i h1 (by omega))
                have HEN := Lib.hid (fun (h : gapB (xs.getD j 0) = true) => show j = n ∨ gapB (xs.getD j 0) = true from .inr h)
                generalize hz : xs.getD j 0 = z at *
                have HZZ := Lib.hid hz; clear hz
                by_cases hz1 : z = 10
                · subst hz1
                  clear HST HZ
                  go_wp2_with fail
                  go_meet
                  exact ⟨j, rfl, rfl, hkj, hj, HJ.out, by rw [HZZ.out]; exact .inr rfl⟩
                · have hz1b : (z != 10) = true := by simp [hz1]
                  cases hz2 : blankB z with
                  | true =>
                    rw [hz2] at HZ
                    have HEN' := Lib.hid (HEN.out (by rw [gap_parts, hz2, Bool.or_true]))
                    clear HST HEN
                    go_wp2_with (go_at_call 40; refine (HZ.out _).mono ?_; rintro e w' ⟨rfl, rfl⟩)
                    go_meet
                    exact ⟨j, rfl, rfl, hkj, hj, HJ.out, by rw [HZZ.out]; exact HEN'.out⟩
                  | false =>
                    rw [hz2] at HZ
                    have HST' := Lib.hid (HST.out (by rw [gap_parts, hz2, Bool.or_false]; exact decide_eq_false hz1))
                    clear HST HEN
                    go_wp2_with (go_at_call 40; refine (HZ.out _).mono ?_; rintro e w' ⟨rfl, rfl⟩)
                    go_roundg (n - (j + 1))
                    case measure => omega
                    case rel => exact ⟨j + 1, by go_num, rfl, rfl, by omega, by omega, HST'.out⟩
              · have hjn' : j = n := by omega
                have HJN := Lib.hid hjn'
                clear hjn'
                go_wp2_with fail
                go_meet
                exact ⟨j, rfl, rfl, hkj, hj, HJ.out, .inl HJN.out⟩
          case rest =>
            obtain ⟨j, rfl, rfl, hkj, hj, HJ⟩ := hcut
            have hend := HJ.out.2
            have hjk : k < j := by
              rcases Nat.lt_or_ge k j with h' | h'
              · exact h'
              · have e : j = k := by omega
                rw [e, HY.out, HGF.out] at hend
                rcases hend with h1 | h1
                · omega
                · cases h1
            have HWK := Lib.hid (HW.out j HGF.out hkj (by rw [HN.out]; exact hj) HJ.out.1 (by rw [HN.out]; exact hend))
            clear hend HW HJ HY HBK
            by_cases hnote : cm = true ∧ f = true ∧ y = 99
            · obtain ⟨rfl, rfl, rfl⟩ := hnote
              clear HCV
              have HWJ := Lib.hid (show splitL true k true s (xs.drop k) = splitL true j false true (xs.drop j) by rw [HWK.out]; simp)
              clear HWK
              go_wp2_with fail
              go_roundw
              case rel => exact ⟨j, false, true, ws, hj, rfl, rfl, rfl, hown, hbr, by omega, by
                have h2 := HQ.out
                rw [HWJ.out] at h2
                simpa [Hid] using h2⟩
              case measure => go_light; simp [intOf]; omega
            · have HCD := Lib.hid (show (cm && (f && y == 99)) = false by cases cm <;> cases f <;> simp_all)
              cases cm
              case false =>
                have HC := Lib.hid HCD.out; clear HCD hnote
                cases s
                case true =>
                  have HWJ := Lib.hid HWK.out; clear HWK
                  go_wp2_with fail
                  go_roundw
                  case rel => exact ⟨j, false, true, ws, hj, rfl, rfl, rfl, hown, hbr, by omega, by
                    have h2 := HQ.out
                    rw [HWJ.out] at h2
                    simpa [Hid] using h2⟩
                  case measure => go_light; simp [intOf]; omega
                case false =>
                  have HWJ := Lib.hid HWK.out; clear HWK
                  rw [Bool.false_or, HC.out] at HWJ
                  have hc2 := HCV.out (j - k) (by omega)
                  go_wp2_with (at_builtin; refine wpList_appS 52 55 _ 3 32 Tryd.underlying52 infoWr rfl (by decide) (by decide) rfl _ _ rfl wc w.heap.size _ ws.length (ws.flatMap wcells) (wcells ((xs.drop k).take (j - k), k, _)) (wcells_one _) rfl hown hBB (by omega) _ rfl rfl rfl ?_; intro v' w2 hown2 hap)
                  go_roundw
                  case rel => exact ⟨j, false, false, _, hj, rfl, rfl, rfl, by rw [flat_snoc, List.length_append]; exact hown2, hbr.trans hap.below, by simp; omega, by
                    have h2 := HQ.out
                    rw [HWJ.out] at h2
                    simpa [Hid] using h2⟩
                  case measure => go_light; simp [intOf]; omega
              case true =>
                cases f
                case false =>
                  have HC := Lib.hid HCD.out; clear HCD hnote
                  cases s
                  case true =>
                    have HWJ := Lib.hid HWK.out; clear HWK
                    go_wp2_with fail
                    go_roundw
                    case rel => exact ⟨j, false, true, ws, hj, rfl, rfl, rfl, hown, hbr, by omega, by
                      have h2 := HQ.out
                      rw [HWJ.out] at h2
                      simpa [Hid] using h2⟩
                    case measure => go_light; simp [intOf]; omega
                  case false =>
                    have HWJ := Lib.hid HWK.out; clear HWK
                    rw [Bool.false_or, HC.out] at HWJ
                    have hc2 := HCV.out (j - k) (by omega)
                    go_wp2_with (at_builtin; refine wpList_appS 52 55 _ 3 32 Tryd.underlying52 infoWr rfl (by decide) (by decide) rfl _ _ rfl wc w.heap.size _ ws.length (ws.flatMap wcells) (wcells ((xs.drop k).take (j - k), k, _)) (wcells_one _) rfl hown hBB (by omega) _ rfl rfl rfl ?_; intro v' w2 hown2 hap)
                    go_roundw
                    case rel => exact ⟨j, false, false, _, hj, rfl, rfl, rfl, by rw [flat_snoc, List.length_append]; exact hown2, hbr.trans hap.below, by simp; omega, by
                      have h2 := HQ.out
                      rw [HWJ.out] at h2
                      simpa [Hid] using h2⟩
                    case measure => go_light; simp [intOf]; omega
                case true =>
                  have hyb : (y == 99) = false := by have := HCD.out; simpa using this
                  have HC := Lib.hid HCD.out; clear HCD hnote
                  cases s
                  case true =>
                    have HWJ := Lib.hid HWK.out; clear HWK
                    go_wp2_with fail
                    go_roundw
                    case rel => exact ⟨j, false, true, ws, hj, rfl, rfl, rfl, hown, hbr, by omega, by
                      have h2 := HQ.out
                      rw [HWJ.out] at h2
                      simpa [Hid] using h2⟩
                    case measure => go_light; simp [intOf]; omega
                  case false =>
                    have HWJ := Lib.hid HWK.out; clear HWK
                    rw [Bool.false_or, HC.out] at HWJ
                    have hc2 := HCV.out (j - k) (by omega)
                    go_wp2_with (at_builtin; refine wpList_appS 52 55 _ 3 32 Tryd.underlying52 infoWr rfl (by decide) (by decide) rfl _ _ rfl wc w.heap.size _ ws.length (ws.flatMap wcells) (wcells ((xs.drop k).take (j - k), k, _)) (wcells_one _) rfl hown hBB (by omega) _ rfl rfl rfl ?_; intro v' w2 hown2 hap)
                    go_roundw
                    case rel => exact ⟨j, false, false, _, hj, rfl, rfl, rfl, by rw [flat_snoc, List.length_append]; exact hown2, hbr.trans hap.below, by simp; omega, by
                      have h2 := HQ.out
                      rw [HWJ.out] at h2
                      simpa [Hid] using h2⟩
                    case measure => go_light; simp [intOf]; omega
    · have hkn : k = n := by omega
      have h2 := HQ.out
      rw [step_end cm xs k f s (by rw [HN.out]; omega), List.append_nil] at h2
      have H2 := Lib.hid h2; clear h2
      clear hlt hk HQ HX HB
      subst hkn
      go_wp2_with fail
      go_ret
      unfold SplitPost
      rw [← H2.out]
      exact ⟨_, rfl, hown, hbr⟩
end Go.Proofs.YtcefeidfmnggaaaDoor
