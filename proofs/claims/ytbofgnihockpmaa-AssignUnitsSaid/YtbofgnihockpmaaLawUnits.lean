/- The walk of skolemlaw2.AssignUnits: it answers true. Conditions: the slices read as 64-bit ints. -/
import Derived.Test.YtbofgnihockpmaaClP
import Derived.Test.YtbofgnihockpmaaCel
import Derived.Test.YtbofgnihockpmaaAsgFirst
import Derived.Deep.RegionHeld3
import Derived.Deep.Light
namespace Go.Proofs.Ytbofgnihockpmaa
open Go.RowKit

theorem getD_bd {cs : List Int} (h : ∀ y ∈ cs, -9223372036854775808 ≤ y ∧ y ≤ 9223372036854775807) (k : Nat) : -9223372036854775808 ≤ cs.getD k 0 ∧ cs.getD k 0 ≤ 9223372036854775807 := by
  by_cases hk : k < cs.length
  · have := h _ (List.getElem_mem hk); simpa [List.getD, hk] using this
  · simp [List.getD, show cs.length ≤ k by omega]
theorem plc_bd {y v : Int} (h : y ≠ 0 ∧ -v ≤ y ∧ y ≤ v) : 1 ≤ plc y ∧ (plc y : Int) ≤ v := by
  have h1 := plc_absI y
  unfold absI at h1
  split at h1 <;> omega

set_option maxRecDepth 4000 in
set_option maxHeartbeats 8000000 in
theorem lawUnits (a : Option Addr) (c : Nat) (cs : List Int) (a' : Option Addr) (c' : Nat) (ls : List Int) (w : World) (hv : RowAt w a c cs) (hu : RowAt w a' c' ls)
    (hcs : ∀ y ∈ cs, -9223372036854775808 ≤ y ∧ y ≤ 9223372036854775807) (hls : ∀ y ∈ ls, -9223372036854775808 ≤ y ∧ y ≤ 9223372036854775807) :
    Calls Try.prog 5 #[.slice a cs.length c, .slice a' ls.length c'] w fun e w' => e = .returned (.bool true) ∧ Below w.heap.size w w' := by
  obtain ⟨hvc, hcm, hv⟩ := hv
  obtain ⟨huc, hcm', hu⟩ := hu
  unfold maxLen at hcm hcm'
  have HX := Lib.hid hv; clear hv
  have HY := Lib.hid hu; clear hu
  have HC := Lib.hid (getD_bd hcs); clear hcs
  have HL := Lib.hid (getD_bd hls); clear hls
  generalize hN : cs.length = n at *
  generalize hM : ls.length = m at *
  have HN := Lib.hid hN; clear hN
  have HM := Lib.hid hM; clear hM
  by_cases hn : 8 < n ∨ 20 < m
  · rcases (show 8 < n ∨ (¬ 8 < n ∧ 20 < m) by omega) with hn' | ⟨hn', hm'⟩
    all_goals
      clear hn
      go_enter Try.func5, Try.ntmps5
      go_wp2_with (go_at_call 7; refine (first_any _).mono ?_; rintro e w1 ⟨rfl, hb⟩)
      go_ret
      exact ⟨rfl, hb⟩
  · have hn1 : ¬ 8 < n := by omega
    have hn2 : ¬ 20 < m := by omega
    clear hn
    go_enter Try.func5, Try.ntmps5
    go_wp2_with (go_at_call 7; refine (first_any _).mono ?_; rintro e w1 ⟨rfl, hb⟩)
    go_loopw [6, 7] (fun o i wr => ∃ k : Nat, k ≤ n ∧ i = .int .i64 k ∧ wr.ownsRow w.heap.size 3 1 o k (((cs.take k).map fun y => litOf y 6).map (Value.int .i64)) ∧ Below w.heap.size w wr) (fun _ i _ => n - (intOf i).toNat)
    case atStart => exact ⟨0, Nat.zero_le _, rfl, ⟨rfl, .inl ⟨rfl, rfl⟩⟩, hb⟩
    case round =>
      obtain ⟨k, hk, rfl, hown, hbr⟩ := hrel
      clear hb
      by_cases hlt : k < n
      · obtain ⟨b, off, ha, hb, hx⟩ := HX.out.resolve_left (by omega)
        subst ha
        have g1 : wr.cell? ⟨b, off + k, none⟩ = some (.int .i64 (cs.getD k 0)) := (hbr.cell (p := ⟨b, off + k, none⟩) hb).trans (hx k hlt)
        have hbd := HC.out k
        have HT := Lib.hid (show (cs.take (k + 1)).map (fun y => litOf y 6) = (cs.take k).map (fun y => litOf y 6) ++ [litOf (cs.getD k 0) 6] by rw [take_snoc cs k (by rw [HN.out]; exact hlt), List.map_append]; rfl)
        clear hx
        generalize cs.getD k 0 = z at *
        obtain ⟨hz1, hz2⟩ := hbd
        have HLi := Lib.hid (fun W => lit_any z 6 W (by omega) (by omega) hz1 hz2)
        generalize litOf z 6 = y at *
        have HBR := Lib.hid hbr; clear hbr
        go_wp2_with (first
          | (go_at_call 30; refine (HLi.out _).mono ?_; rintro e w' ⟨rfl, rfl⟩)
          | (at_builtin; refine wpList_app1 rfl _ _ rfl wr w.heap.size _ _ _ y hown HBR.out.size (by omega) rfl rfl ?_; intro v' w2 hown2 hb3))
        go_roundw
        case rel => exact ⟨k + 1, by omega, by go_num, by rw [HT.out]; exact hown2, HBR.out.trans hb3.below⟩
        case measure => go_light; simp [intOf]; omega
      · have hkn : k = n := by omega
        subst hkn
        rename World => wd
        rw [List.take_of_length_le (by rw [HN.out]; exact Nat.le_refl _)] at hown
        have hd : ∀ l ∈ cs.map (fun y => litOf y 6), 1 ≤ plc l ∧ plc l < 7 := by
          intro l hl
          obtain ⟨y, _, rfl⟩ := List.mem_map.1 hl
          have := plc_bd (litOf_bd y 6 (by omega)); omega
        have hdw : InW (cs.map fun y => litOf y 6) := by
          intro l hl
          obtain ⟨y, _, rfl⟩ := List.mem_map.1 hl
          have := litOf_bd y 6 (by omega); omega
        obtain ⟨ad, cd, rfl, hd1, hd2⟩ := own_shape hown
        unfold maxLen at hd2
        have hrow := own_row hown
        generalize cs.map (fun y => litOf y 6) = d at *
        have HD := Lib.hid hd; clear hd
        have HDW := Lib.hid hdw; clear hdw
        have HRW := Lib.hid hrow; clear hrow
        have HBD := Lib.hid hbr; clear hbr
        clear hown hlt
        go_wp2_with (go_at_call 10; refine (new_any 6 _ (by omega) (by omega)).mono ?_; rintro e w2 ⟨p, q, rfl, hA, hb2⟩)
        go_loopw [9] (fun i wr => ∃ (j : Nat) (V : List Int), j ≤ m ∧ i = .int .i64 j ∧ Asg wr wd.heap.size (.pointer (some ⟨p, 0, none⟩)) p q V ∧ Below wd.heap.size wd wr ∧ Hid (V.length = 7)) (fun i _ => m - (intOf i).toNat)
        case atStart => exact ⟨0, _, Nat.zero_le _, rfl, hA, hb2, show (newV 6).length = 7 by decide⟩
        case round =>
          obtain ⟨j, V, hj, rfl, hA3, hb3, HV7⟩ := hrel
          clear hA hb2
          by_cases hlt : j < m
          · obtain ⟨b, off, ha, hb, hx⟩ := HY.out.resolve_left (by omega)
            subst ha
            have g1 : wr.cell? ⟨b, off + j, none⟩ = some (.int .i64 (ls.getD j 0)) := (hb3.cell (p := ⟨b, off + j, none⟩) (Nat.lt_of_lt_of_le hb HBD.out.size)).trans ((HBD.out.cell (p := ⟨b, off + j, none⟩) hb).trans (hx j hlt))
            have hbd := HL.out j
            clear hx
            generalize ls.getD j 0 = z at *
            obtain ⟨hz1, hz2⟩ := hbd
            have HLi := Lib.hid (fun W => lit_any z 6 W (by omega) (by omega) hz1 hz2)
            have hy := litOf_bd z 6 (by omega)
            generalize litOf z 6 = y at *
            have hy1 : -9223372036854775807 ≤ y := by omega
            have hy2 : y ≤ 9223372036854775807 := by omega
            clear hy
            have HB3 := Lib.hid hb3; clear hb3
            go_wp2_with (first
              | (go_at_call 30; refine (HLi.out _).mono ?_; rintro e w' ⟨rfl, rfl⟩)
              | (go_at_call 13; refine (set_any hA3 _ hy1 hy2).mono ?_; rintro e w4 ⟨rfl, hA4, hO4⟩))
            go_roundw
            case rel => exact ⟨j + 1, _, by omega, by go_num, hA4, hO4.below HB3.out HB3.out.size hA3.bq, by unfold Hid; rw [setV_len]; exact HV7.out⟩
            case measure => go_light; simp [intOf]; omega
          · have hjm : j = m := by omega
            subst hjm
            have hR3 : Row wr (.slice ad k cd) d := HRW.out.keep hb3
            have HB3 := Lib.hid hb3; clear hb3
            have hsz : w.heap.size ≤ wd.heap.size := HBD.out.size
            have HF := Lib.hid (fun (o : Int) => units_facts hA3.vals (d := d) (by rw [HV7.out]; exact HD.out) (o := o))
            have hC1 := clause_any hA3 _ d hR3 HDW.out
            have HR3 := Lib.hid hR3; clear hR3
            generalize hx : (clauseL V d).1 = x at *
            generalize ho : (clauseL V d).2 = o at *
            clear hx ho
            have HC1 := Lib.hid hC1; clear hC1
            by_cases ho0 : o = 0
            · subst ho0
              clear HF
              go_wp2_with (go_at_call 17; refine HC1.out.mono ?_; rintro e w' ⟨rfl, rfl⟩)
              go_ret
              exact ⟨rfl, HBD.out.trans (HB3.out.mono hsz)⟩
            · obtain ⟨f1, f2, f3, f4, f5, f6⟩ := HF.out o rfl ho0
              have HF5 := Lib.hid f5; clear f5
              have HF4 := Lib.hid f4; clear f4
              have HF6 := Lib.hid f6; clear f6
              have hob := HDW.out _ f2
              obtain ⟨ho1, ho2⟩ := hob
              have hod : decide (o ∈ d) = true := by simp [f2]
              clear f2
              have hq : wd.heap.size ≤ q := hA3.bq
              have hob0 : (o == 0) = false := by simp [ho0]
              by_cases hop : 0 < o
              · have hm : (plc o : Int) = o := plc_pos hop
                rw [hm] at HF5 HF6
                have f4 := HF4.out
                have f5 := HF5.out
                clear HF4 HF5
                by_cases hz : (clauseL (setV (unsetV (setV V o) o) (-o)) d).1 = 2
                · clear HF6
                  go_wp2_with (first
                    | (go_at_call 17; refine (clause_any hA8 _ d hR8 HDW.out).mono ?_; rintro e w9 ⟨rfl, rfl⟩)
                    | (go_at_call 17; refine (clause_any hA5 _ d hR5 HDW.out).mono ?_; rintro e w' ⟨rfl, rfl⟩)
                    | (go_at_call 17; refine HC1.out.mono ?_; rintro e w' ⟨rfl, rfl⟩)
                    | (go_at_call 15; refine (unset_any hA5 _ (by omega) (by omega)).mono ?_; rintro e w6 ⟨rfl, hA6, hO6⟩; have hb6 := hO6.below hb5 hb5.size hq)
                    | (go_at_call 13; refine (set_any hA6 _ (by omega) (by omega)).mono ?_; rintro e w8 ⟨rfl, hA8, hO8⟩; have hb8 := hO8.below hb6 hb6.size hq; have hR8 := HRW.out.keep hb8)
                    | (go_at_call 13; refine (set_any hA3 _ ho1 ho2).mono ?_; rintro e w5 ⟨rfl, hA5, hO5⟩; have hb5 := hO5.below HB3.out HB3.out.size hq; have hR5 := HRW.out.keep hb5)
                    | (go_at_call 31; refine (has_any _ d _ _ hR8).mono ?_; rintro e w' ⟨rfl, rfl⟩))
                  go_ret
                  exact ⟨rfl, HBD.out.trans (hb8.mono hsz)⟩
                · have hnd : decide (-o ∈ d) = true := by simpa using HF6.out.resolve_left hz
                  have hzb : ((clauseL (setV (unsetV (setV V o) o) (-o)) d).1 == 2) = false := by simp [hz]
                  clear HF6 hz
                  go_wp2_with (first
                    | (go_at_call 17; refine (clause_any hA8 _ d hR8 HDW.out).mono ?_; rintro e w9 ⟨rfl, rfl⟩)
                    | (go_at_call 17; refine (clause_any hA5 _ d hR5 HDW.out).mono ?_; rintro e w' ⟨rfl, rfl⟩)
                    | (go_at_call 17; refine HC1.out.mono ?_; rintro e w' ⟨rfl, rfl⟩)
                    | (go_at_call 15; refine (unset_any hA5 _ (by omega) (by omega)).mono ?_; rintro e w6 ⟨rfl, hA6, hO6⟩; have hb6 := hO6.below hb5 hb5.size hq)
                    | (go_at_call 13; refine (set_any hA6 _ (by omega) (by omega)).mono ?_; rintro e w8 ⟨rfl, hA8, hO8⟩; have hb8 := hO8.below hb6 hb6.size hq; have hR8 := HRW.out.keep hb8)
                    | (go_at_call 13; refine (set_any hA3 _ ho1 ho2).mono ?_; rintro e w5 ⟨rfl, hA5, hO5⟩; have hb5 := hO5.below HB3.out HB3.out.size hq; have hR5 := HRW.out.keep hb5)
                    | (go_at_call 31; refine (has_any _ d _ _ hR8).mono ?_; rintro e w' ⟨rfl, rfl⟩))
                  go_ret
                  exact ⟨rfl, HBD.out.trans (hb8.mono hsz)⟩
              · have hm : (plc o : Int) = -o := plc_neg (by omega)
                rw [hm] at HF5 HF6
                have f4 := HF4.out
                have f5 := HF5.out
                clear HF4 HF5
                by_cases hz : (clauseL (setV (unsetV (setV V o) (-o)) (-o)) d).1 = 2
                · clear HF6
                  go_wp2_with (first
                    | (go_at_call 17; refine (clause_any hA8 _ d hR8 HDW.out).mono ?_; rintro e w9 ⟨rfl, rfl⟩)
                    | (go_at_call 17; refine (clause_any hA5 _ d hR5 HDW.out).mono ?_; rintro e w' ⟨rfl, rfl⟩)
                    | (go_at_call 17; refine HC1.out.mono ?_; rintro e w' ⟨rfl, rfl⟩)
                    | (go_at_call 15; refine (unset_any hA5 _ (by omega) (by omega)).mono ?_; rintro e w6 ⟨rfl, hA6, hO6⟩; have hb6 := hO6.below hb5 hb5.size hq)
                    | (go_at_call 13; refine (set_any hA6 _ (by omega) (by omega)).mono ?_; rintro e w8 ⟨rfl, hA8, hO8⟩; have hb8 := hO8.below hb6 hb6.size hq; have hR8 := HRW.out.keep hb8)
                    | (go_at_call 13; refine (set_any hA3 _ ho1 ho2).mono ?_; rintro e w5 ⟨rfl, hA5, hO5⟩; have hb5 := hO5.below HB3.out HB3.out.size hq; have hR5 := HRW.out.keep hb5)
                    | (go_at_call 31; refine (has_any _ d _ _ hR8).mono ?_; rintro e w' ⟨rfl, rfl⟩))
                  go_ret
                  exact ⟨rfl, HBD.out.trans (hb8.mono hsz)⟩
                · have hnd : decide (-o ∈ d) = true := by simpa using HF6.out.resolve_left hz
                  have hzb : ((clauseL (setV (unsetV (setV V o) (-o)) (-o)) d).1 == 2) = false := by simp [hz]
                  clear HF6 hz
                  go_wp2_with (first
                    | (go_at_call 17; refine (clause_any hA8 _ d hR8 HDW.out).mono ?_; rintro e w9 ⟨rfl, rfl⟩)
                    | (go_at_call 17; refine (clause_any hA5 _ d hR5 HDW.out).mono ?_; rintro e w' ⟨rfl, rfl⟩)
                    | (go_at_call 17; refine HC1.out.mono ?_; rintro e w' ⟨rfl, rfl⟩)
                    | (go_at_call 15; refine (unset_any hA5 _ (by omega) (by omega)).mono ?_; rintro e w6 ⟨rfl, hA6, hO6⟩; have hb6 := hO6.below hb5 hb5.size hq)
                    | (go_at_call 13; refine (set_any hA6 _ (by omega) (by omega)).mono ?_; rintro e w8 ⟨rfl, hA8, hO8⟩; have hb8 := hO8.below hb6 hb6.size hq; have hR8 := HRW.out.keep hb8)
                    | (go_at_call 13; refine (set_any hA3 _ ho1 ho2).mono ?_; rintro e w5 ⟨rfl, hA5, hO5⟩; have hb5 := hO5.below HB3.out HB3.out.size hq; have hR5 := HRW.out.keep hb5)
                    | (go_at_call 31; refine (has_any _ d _ _ hR8).mono ?_; rintro e w' ⟨rfl, rfl⟩))
                  go_ret
                  exact ⟨rfl, HBD.out.trans (hb8.mono hsz)⟩
end Go.Proofs.Ytbofgnihockpmaa
