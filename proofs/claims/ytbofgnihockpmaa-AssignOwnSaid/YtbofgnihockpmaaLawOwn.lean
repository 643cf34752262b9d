/- The walk of skolemlaw2.AssignOwn: it answers true. Conditions: the slice reads as 64-bit ints. -/
import Derived.Test.YtbofgnihockpmaaOwnP
import Derived.Test.YtbofgnihockpmaaCel
import Derived.Test.YtbofgnihockpmaaAsgFirst
import Derived.Deep.RegionHeld3
import Derived.Deep.Light
namespace Go.Proofs.Ytbofgnihockpmaa
open Go.RowKit

set_option maxRecDepth 4000 in
set_option maxHeartbeats 8000000 in
theorem lawOwn (a : Option Addr) (c : Nat) (cs : List Int) (x : Int) (w : World) (hv : RowAt w a c cs) (hcs : ∀ y ∈ cs, -9223372036854775808 ≤ y ∧ y ≤ 9223372036854775807) :
    Calls Try.prog 6 #[.slice a cs.length c, .int .i64 x] w fun e w' => e = .returned (.bool true) ∧ Below w.heap.size w w' := by
  obtain ⟨hvc, hcm, hv⟩ := hv
  unfold maxLen at hcm
  have HX := Lib.hid hv; clear hv
  have HC := Lib.hid (fun k => show -9223372036854775808 ≤ cs.getD k 0 ∧ cs.getD k 0 ≤ 9223372036854775807 by
    by_cases hk : k < cs.length
    · have := hcs _ (List.getElem_mem hk); simpa [List.getD, hk] using this
    · simp [List.getD, show cs.length ≤ k by omega])
  clear hcs
  generalize hN : cs.length = n at *
  have HN := Lib.hid hN; clear hN
  by_cases hn : 40 < n
  · go_enter Try.func6, Try.ntmps6
    go_wp2_with (go_at_call 7; refine (first_any _).mono ?_; rintro e w1 ⟨rfl, hb⟩)
    go_ret
    exact ⟨rfl, hb⟩
  · go_enter Try.func6, Try.ntmps6
    go_wp2_with (first
      | (go_at_call 7; refine (first_any _).mono ?_; rintro e w1 ⟨rfl, hb⟩)
      | (go_at_call 10; refine (new_any 12 _ (by omega) (by omega)).mono ?_; rintro e w2 ⟨p, q, rfl, hA, hb2⟩)
      | (at_make; refine wpList_makeN rfl _ _ rfl _ 13 rfl rfl (by omega) ?_; intro w3 hown hb3 hs3))
    have hq : q < w2.heap.size := hA.sq
    have hp : p < w2.heap.size := hA.sp
    have hC := Cel.of_own hown (by omega)
    have hA3 := (hA.keep hb3).base hb.size
    have hbb : Below w.heap.size w w3 := (hb.trans (hb2.mono hb.size)).trans (hb3.mono (Nat.le_trans hb.size hb2.size))
    have hr : w.heap.size ≤ w2.heap.size := Nat.le_trans hb.size hb2.size
    clear hA hb hb2 hb3 hown
    generalize w2.heap.size = r at *
    go_loopw [8, 9, 10, 11] (fun i _ _ _ wr => ∃ (k : Nat) (V Wt : List Int), k ≤ n ∧ i = .int .i64 k ∧ Asg wr w.heap.size (.pointer (some ⟨p, 0, none⟩)) p q V ∧ Cel wr r Wt ∧ Below w.heap.size w wr ∧ Hid (OwnRel V Wt)) (fun i _ _ _ _ => n - (intOf i).toNat)
    case atStart => exact ⟨0, _, _, Nat.zero_le _, rfl, hA3, hC, hbb, ownRel_start⟩
    case round =>
      obtain ⟨k, V, Wt, hk, rfl, hA, hC, hbr, HR⟩ := hrel
      by_cases hlt : k < n
      · obtain ⟨b, off, ha, hb, hx⟩ := HX.out.resolve_left (by omega)
        subst ha
        have g1 : wr.cell? ⟨b, off + k, none⟩ = some (.int .i64 (cs.getD k 0)) := (hbr.cell (p := ⟨b, off + k, none⟩) hb).trans (hx k hlt)
        have hbd := HC.out k
        clear hx
        generalize cs.getD k 0 = z at *
        obtain ⟨hz1, hz2⟩ := hbd
        have HL := Lib.hid (fun W => lit_any z 12 W (by omega) (by omega) hz1 hz2)
        have hy := litOf_bd z 12 (by omega)
        generalize litOf z 12 = y at *
        obtain ⟨hy0, hy1, hy2⟩ := hy
        have hm := plc_absI y
        have hm1 : 1 ≤ plc y := by unfold absI at hm; split at hm <;> omega
        have hm2 : plc y ≤ 12 := by unfold absI at hm; split at hm <;> omega
        have HAb := Lib.hid (fun W => abs_any y W (by omega) (by omega))
        rw [← hm] at HAb
        have hok := own_ok HR.out y hm1 hm2
        have HST := Lib.hid (own_step HR.out y hm1 hm2)
        have HUN := Lib.hid (own_unset HST.out (plc y) hm1 hm2)
        have h3 := HR.out.three (plc y)
        have gw := hC.cells (plc y) (by rw [HR.out.lw]; omega)
        have hlw := HR.out.lw
        have HSet := Lib.hid (fun W (hW : Asg W w.heap.size (.pointer (some ⟨p, 0, none⟩)) p q V) => set_any hW y (by omega) (by omega))
        generalize plc y = m at *
        generalize hT : Wt.getD m 0 = t at *
        have HT := Lib.hid hT; clear hT
        have hmi1 : (0 : Int) ≤ (m : Int) := by omega
        have hmi2 : (m : Int) < 13 := by omega
        have hqr : q ≠ r := by omega
        have hbr2 : b ≠ r := by omega
        have hbq : b ≠ q := by have := hA.bq; omega
        have CK := Lib.hid (fun W (h : Below wr.heap.size wr W) => (h.cell (p := ⟨r, m, none⟩) hC.sq).trans gw)
        have HAr := Lib.hid hA
        have HCr := Lib.hid hC
        clear hA hC
        clear hm
        by_cases hyn : y < 0
        · rcases h3 with rfl | rfl | rfl
          · have hs : sgnI y = -1 := by unfold sgnI; rw [if_pos hyn]
            rw [hs] at hok HST HUN
            have hok' : setOk V y = true := by rw [hok]; rfl
            clear hok hs
            go_wp2_with (first
              | (go_at_call 30; refine (HL.out _).mono ?_; rintro e w' ⟨rfl, rfl⟩)
              | (go_at_call 32; refine (HAb.out _).mono ?_; rintro e w' ⟨rfl, rfl⟩))
            go_region_held3 (fun W => W.cell? ⟨r, m, none⟩ = some (.int .i64 (0))) (first | exact CK.out _ (Below.refl _ _) | exact CK.out _ (Below.refl _ _).drew | exact gw4) (first
              | (go_at_call 13; refine (HSet.out _ (HAr.out.keep (Below.refl _ _).drew)).mono ?_; rintro e w4 ⟨rfl, hA4, hO4'⟩; have hO4 : Only q wr w4 := (Only.of_below (Below.refl _ _).drew).trans hO4'; have hC4 := HCr.out.other hO4 hqr.symm; have gw4 : w4.cell? ⟨r, m, none⟩ = some (.int .i64 (0)) := (World.cell?_of_block (a := ⟨r, m, none⟩) (hO4.block r HCr.out.sq (fun e => by injection e with e; exact hqr e.symm))).trans gw; clear hO4'))
            all_goals
              have g4 : w4.cell? ⟨b, off + k, none⟩ = some (.int .i64 z) := (World.cell?_of_block (a := ⟨b, off + k, none⟩) (hO4.block b (Nat.lt_of_lt_of_le hb hbr.size) (fun e => by injection e with e; exact hbq e))).trans g1
              have gf4 := hC4.free m
              have hb4 : Below w.heap.size w w4 := hO4.below hbr hbr.size HAr.out.bq
              have hA5 := hA4.other (Only.setCell w4 r m (.int .i64 (-1))) (Nat.ne_of_lt hp) hqr
              have hC5 : Cel (w4.setCell ⟨r, m, none⟩ (.int .i64 (-1))) r (ownW Wt m (-1)) := by rw [ownW_yes HT.out]; exact hC4.set m (-1)
              have hb5 : Below w.heap.size w (w4.setCell ⟨r, m, none⟩ (.int .i64 (-1))) := hb4.setCell hr _
              have hlw5 : m < (ownW Wt m (-1)).length := by rw [ownW_len]; omega
              have HB5 := Lib.hid hb5
              clear hb5
              go_wp2_with (go_at_call 15; refine (unset_any hA5 (m : Int) (by omega) (by omega)).mono ?_; rintro e w6 ⟨rfl, hA6, hO6⟩; have hC6 := hC5.other hO6 hqr.symm; have gw6 := hC6.cells m hlw5; have gf6 := hC6.free m)
              all_goals
                go_roundw
                case rel => first
                  | exact ⟨k + 1, _, _, by omega, by go_num, hA6.other (Only.setCell _ _ _ _) (Nat.ne_of_lt hp) hqr, hC6.set m 0, (hO6.below HB5.out HB5.out.size HAr.out.bq).setCell hr _, HUN.out⟩
                  | exact ⟨k + 1, _, _, by omega, by go_num, hA5, hC5, HB5.out, HST.out⟩
                case measure => go_light; simp [intOf]; omega
          · have hs : sgnI y = -1 := by unfold sgnI; rw [if_pos hyn]
            rw [hs] at hok HST HUN
            have hok' : setOk V y = false := by rw [hok]; rfl
            clear hok hs
            go_wp2_with (first
              | (go_at_call 30; refine (HL.out _).mono ?_; rintro e w' ⟨rfl, rfl⟩)
              | (go_at_call 32; refine (HAb.out _).mono ?_; rintro e w' ⟨rfl, rfl⟩))
            go_region_held3 (fun W => W.cell? ⟨r, m, none⟩ = some (.int .i64 (1))) (first | exact CK.out _ (Below.refl _ _) | exact CK.out _ (Below.refl _ _).drew | exact gw4) (first
              | (go_at_call 13; refine (HSet.out _ (HAr.out.keep (Below.refl _ _).drew)).mono ?_; rintro e w4 ⟨rfl, hA4, hO4'⟩; have hO4 : Only q wr w4 := (Only.of_below (Below.refl _ _).drew).trans hO4'; have hC4 := HCr.out.other hO4 hqr.symm; have gw4 : w4.cell? ⟨r, m, none⟩ = some (.int .i64 (1)) := (World.cell?_of_block (a := ⟨r, m, none⟩) (hO4.block r HCr.out.sq (fun e => by injection e with e; exact hqr e.symm))).trans gw; clear hO4'))
            all_goals
              have g4 : w4.cell? ⟨b, off + k, none⟩ = some (.int .i64 z) := (World.cell?_of_block (a := ⟨b, off + k, none⟩) (hO4.block b (Nat.lt_of_lt_of_le hb hbr.size) (fun e => by injection e with e; exact hbq e))).trans g1
              have gf4 := hC4.free m
              have hb4 : Below w.heap.size w w4 := hO4.below hbr hbr.size HAr.out.bq
              have hA5 := hA4
              have hC5 : Cel w4 r (ownW Wt m (-1)) := by rw [ownW_no (by rw [HT.out]; omega)]; exact hC4
              have hb5 := hb4
              have hlw5 : m < (ownW Wt m (-1)).length := by rw [ownW_len]; omega
              have HB5 := Lib.hid hb5
              clear hb5
              go_wp2_with (go_at_call 15; refine (unset_any hA5 (m : Int) (by omega) (by omega)).mono ?_; rintro e w6 ⟨rfl, hA6, hO6⟩; have hC6 := hC5.other hO6 hqr.symm; have gw6 := hC6.cells m hlw5; have gf6 := hC6.free m)
              all_goals
                go_roundw
                case rel => first
                  | exact ⟨k + 1, _, _, by omega, by go_num, hA6.other (Only.setCell _ _ _ _) (Nat.ne_of_lt hp) hqr, hC6.set m 0, (hO6.below HB5.out HB5.out.size HAr.out.bq).setCell hr _, HUN.out⟩
                  | exact ⟨k + 1, _, _, by omega, by go_num, hA5, hC5, HB5.out, HST.out⟩
                case measure => go_light; simp [intOf]; omega
          · have hs : sgnI y = -1 := by unfold sgnI; rw [if_pos hyn]
            rw [hs] at hok HST HUN
            have hok' : setOk V y = true := by rw [hok]; rfl
            clear hok hs
            go_wp2_with (first
              | (go_at_call 30; refine (HL.out _).mono ?_; rintro e w' ⟨rfl, rfl⟩)
              | (go_at_call 32; refine (HAb.out _).mono ?_; rintro e w' ⟨rfl, rfl⟩))
            go_region_held3 (fun W => W.cell? ⟨r, m, none⟩ = some (.int .i64 (-1))) (first | exact CK.out _ (Below.refl _ _) | exact CK.out _ (Below.refl _ _).drew | exact gw4) (first
              | (go_at_call 13; refine (HSet.out _ (HAr.out.keep (Below.refl _ _).drew)).mono ?_; rintro e w4 ⟨rfl, hA4, hO4'⟩; have hO4 : Only q wr w4 := (Only.of_below (Below.refl _ _).drew).trans hO4'; have hC4 := HCr.out.other hO4 hqr.symm; have gw4 : w4.cell? ⟨r, m, none⟩ = some (.int .i64 (-1)) := (World.cell?_of_block (a := ⟨r, m, none⟩) (hO4.block r HCr.out.sq (fun e => by injection e with e; exact hqr e.symm))).trans gw; clear hO4'))
            all_goals
              have g4 : w4.cell? ⟨b, off + k, none⟩ = some (.int .i64 z) := (World.cell?_of_block (a := ⟨b, off + k, none⟩) (hO4.block b (Nat.lt_of_lt_of_le hb hbr.size) (fun e => by injection e with e; exact hbq e))).trans g1
              have gf4 := hC4.free m
              have hb4 : Below w.heap.size w w4 := hO4.below hbr hbr.size HAr.out.bq
              have hA5 := hA4
              have hC5 : Cel w4 r (ownW Wt m (-1)) := by rw [ownW_no (by rw [HT.out]; omega)]; exact hC4
              have hb5 := hb4
              have hlw5 : m < (ownW Wt m (-1)).length := by rw [ownW_len]; omega
              have HB5 := Lib.hid hb5
              clear hb5
              go_wp2_with (go_at_call 15; refine (unset_any hA5 (m : Int) (by omega) (by omega)).mono ?_; rintro e w6 ⟨rfl, hA6, hO6⟩; have hC6 := hC5.other hO6 hqr.symm; have gw6 := hC6.cells m hlw5; have gf6 := hC6.free m)
              all_goals
                go_roundw
                case rel => first
                  | exact ⟨k + 1, _, _, by omega, by go_num, hA6.other (Only.setCell _ _ _ _) (Nat.ne_of_lt hp) hqr, hC6.set m 0, (hO6.below HB5.out HB5.out.size HAr.out.bq).setCell hr _, HUN.out⟩
                  | exact ⟨k + 1, _, _, by omega, by go_num, hA5, hC5, HB5.out, HST.out⟩
                case measure => go_light; simp [intOf]; omega
        · rcases h3 with rfl | rfl | rfl
          · have hs : sgnI y = 1 := by unfold sgnI; rw [if_neg hyn]
            rw [hs] at hok HST HUN
            have hok' : setOk V y = true := by rw [hok]; rfl
            clear hok hs
            go_wp2_with (first
              | (go_at_call 30; refine (HL.out _).mono ?_; rintro e w' ⟨rfl, rfl⟩)
              | (go_at_call 32; refine (HAb.out _).mono ?_; rintro e w' ⟨rfl, rfl⟩))
            go_region_held3 (fun W => W.cell? ⟨r, m, none⟩ = some (.int .i64 (0))) (first | exact CK.out _ (Below.refl _ _) | exact CK.out _ (Below.refl _ _).drew | exact gw4) (first
              | (go_at_call 13; refine (HSet.out _ (HAr.out.keep (Below.refl _ _).drew)).mono ?_; rintro e w4 ⟨rfl, hA4, hO4'⟩; have hO4 : Only q wr w4 := (Only.of_below (Below.refl _ _).drew).trans hO4'; have hC4 := HCr.out.other hO4 hqr.symm; have gw4 : w4.cell? ⟨r, m, none⟩ = some (.int .i64 (0)) := (World.cell?_of_block (a := ⟨r, m, none⟩) (hO4.block r HCr.out.sq (fun e => by injection e with e; exact hqr e.symm))).trans gw; clear hO4'))
            all_goals
              have g4 : w4.cell? ⟨b, off + k, none⟩ = some (.int .i64 z) := (World.cell?_of_block (a := ⟨b, off + k, none⟩) (hO4.block b (Nat.lt_of_lt_of_le hb hbr.size) (fun e => by injection e with e; exact hbq e))).trans g1
              have gf4 := hC4.free m
              have hb4 : Below w.heap.size w w4 := hO4.below hbr hbr.size HAr.out.bq
              have hA5 := hA4.other (Only.setCell w4 r m (.int .i64 (1))) (Nat.ne_of_lt hp) hqr
              have hC5 : Cel (w4.setCell ⟨r, m, none⟩ (.int .i64 (1))) r (ownW Wt m (1)) := by rw [ownW_yes HT.out]; exact hC4.set m (1)
              have hb5 : Below w.heap.size w (w4.setCell ⟨r, m, none⟩ (.int .i64 (1))) := hb4.setCell hr _
              have hlw5 : m < (ownW Wt m (1)).length := by rw [ownW_len]; omega
              have HB5 := Lib.hid hb5
              clear hb5
              go_wp2_with (go_at_call 15; refine (unset_any hA5 (m : Int) (by omega) (by omega)).mono ?_; rintro e w6 ⟨rfl, hA6, hO6⟩; have hC6 := hC5.other hO6 hqr.symm; have gw6 := hC6.cells m hlw5; have gf6 := hC6.free m)
              all_goals
                go_roundw
                case rel => first
                  | exact ⟨k + 1, _, _, by omega, by go_num, hA6.other (Only.setCell _ _ _ _) (Nat.ne_of_lt hp) hqr, hC6.set m 0, (hO6.below HB5.out HB5.out.size HAr.out.bq).setCell hr _, HUN.out⟩
                  | exact ⟨k + 1, _, _, by omega, by go_num, hA5, hC5, HB5.out, HST.out⟩
                case measure => go_light; simp [intOf]; omega
          · have hs : sgnI y = 1 := by unfold sgnI; rw [if_neg hyn]
            rw [hs] at hok HST HUN
            have hok' : setOk V y = true := by rw [hok]; rfl
            clear hok hs
            go_wp2_with (first
              | (go_at_call 30; refine (HL.out _).mono ?_; rintro e w' ⟨rfl, rfl⟩)
              | (go_at_call 32; refine (HAb.out _).mono ?_; rintro e w' ⟨rfl, rfl⟩))
            go_region_held3 (fun W => W.cell? ⟨r, m, none⟩ = some (.int .i64 (1))) (first | exact CK.out _ (Below.refl _ _) | exact CK.out _ (Below.refl _ _).drew | exact gw4) (first
              | (go_at_call 13; refine (HSet.out _ (HAr.out.keep (Below.refl _ _).drew)).mono ?_; rintro e w4 ⟨rfl, hA4, hO4'⟩; have hO4 : Only q wr w4 := (Only.of_below (Below.refl _ _).drew).trans hO4'; have hC4 := HCr.out.other hO4 hqr.symm; have gw4 : w4.cell? ⟨r, m, none⟩ = some (.int .i64 (1)) := (World.cell?_of_block (a := ⟨r, m, none⟩) (hO4.block r HCr.out.sq (fun e => by injection e with e; exact hqr e.symm))).trans gw; clear hO4'))
            all_goals
              have g4 : w4.cell? ⟨b, off + k, none⟩ = some (.int .i64 z) := (World.cell?_of_block (a := ⟨b, off + k, none⟩) (hO4.block b (Nat.lt_of_lt_of_le hb hbr.size) (fun e => by injection e with e; exact hbq e))).trans g1
              have gf4 := hC4.free m
              have hb4 : Below w.heap.size w w4 := hO4.below hbr hbr.size HAr.out.bq
              have hA5 := hA4
              have hC5 : Cel w4 r (ownW Wt m (1)) := by rw [ownW_no (by rw [HT.out]; omega)]; exact hC4
              have hb5 := hb4
              have hlw5 : m < (ownW Wt m (1)).length := by rw [ownW_len]; omega
              have HB5 := Lib.hid hb5
              clear hb5
              go_wp2_with (go_at_call 15; refine (unset_any hA5 (m : Int) (by omega) (by omega)).mono ?_; rintro e w6 ⟨rfl, hA6, hO6⟩; have hC6 := hC5.other hO6 hqr.symm; have gw6 := hC6.cells m hlw5; have gf6 := hC6.free m)
              all_goals
                go_roundw
                case rel => first
                  | exact ⟨k + 1, _, _, by omega, by go_num, hA6.other (Only.setCell _ _ _ _) (Nat.ne_of_lt hp) hqr, hC6.set m 0, (hO6.below HB5.out HB5.out.size HAr.out.bq).setCell hr _, HUN.out⟩
                  | exact ⟨k + 1, _, _, by omega, by go_num, hA5, hC5, HB5.out, HST.out⟩
                case measure => go_light; simp [intOf]; omega
          · have hs : sgnI y = 1 := by unfold sgnI; rw [if_neg hyn]
            rw [hs] at hok HST HUN
            have hok' : setOk V y = false := by rw [hok]; rfl
            clear hok hs
            go_wp2_with (first
              | (go_at_call 30; refine (HL.out _).mono ?_; rintro e w' ⟨rfl, rfl⟩)
              | (go_at_call 32; refine (HAb.out _).mono ?_; rintro e w' ⟨rfl, rfl⟩))
            go_region_held3 (fun W => W.cell? ⟨r, m, none⟩ = some (.int .i64 (-1))) (first | exact CK.out _ (Below.refl _ _) | exact CK.out _ (Below.refl _ _).drew | exact gw4) (first
              | (go_at_call 13; refine (HSet.out _ (HAr.out.keep (Below.refl _ _).drew)).mono ?_; rintro e w4 ⟨rfl, hA4, hO4'⟩; have hO4 : Only q wr w4 := (Only.of_below (Below.refl _ _).drew).trans hO4'; have hC4 := HCr.out.other hO4 hqr.symm; have gw4 : w4.cell? ⟨r, m, none⟩ = some (.int .i64 (-1)) := (World.cell?_of_block (a := ⟨r, m, none⟩) (hO4.block r HCr.out.sq (fun e => by injection e with e; exact hqr e.symm))).trans gw; clear hO4'))
            all_goals
              have g4 : w4.cell? ⟨b, off + k, none⟩ = some (.int .i64 z) := (World.cell?_of_block (a := ⟨b, off + k, none⟩) (hO4.block b (Nat.lt_of_lt_of_le hb hbr.size) (fun e => by injection e with e; exact hbq e))).trans g1
              have gf4 := hC4.free m
              have hb4 : Below w.heap.size w w4 := hO4.below hbr hbr.size HAr.out.bq
              have hA5 := hA4
              have hC5 : Cel w4 r (ownW Wt m (1)) := by rw [ownW_no (by rw [HT.out]; omega)]; exact hC4
              have hb5 := hb4
              have hlw5 : m < (ownW Wt m (1)).length := by rw [ownW_len]; omega
              have HB5 := Lib.hid hb5
              clear hb5
              go_wp2_with (go_at_call 15; refine (unset_any hA5 (m : Int) (by omega) (by omega)).mono ?_; rintro e w6 ⟨rfl, hA6, hO6⟩; have hC6 := hC5.other hO6 hqr.symm; have gw6 := hC6.cells m hlw5; have gf6 := hC6.free m)
              all_goals
                go_roundw
                case rel => first
                  | exact ⟨k + 1, _, _, by omega, by go_num, hA6.other (Only.setCell _ _ _ _) (Nat.ne_of_lt hp) hqr, hC6.set m 0, (hO6.below HB5.out HB5.out.size HAr.out.bq).setCell hr _, HUN.out⟩
                  | exact ⟨k + 1, _, _, by omega, by go_num, hA5, hC5, HB5.out, HST.out⟩
                case measure => go_light; simp [intOf]; omega
      · have hkn : k = n := by omega
        subst hkn
        have HE := Lib.hid (fun v h1 h2 => own_ends HR.out v h1 h2)
        have HT3 := Lib.hid HR.out.three
        have hlw := HR.out.lw
        have HCC := Lib.hid hC.cells
        obtain ⟨E1, E2, E3, E4⟩ := own_out HR.out
        have e13 := Lib.hid (show setV V 13 = V by unfold setV; rw [E3]; rfl)
        have HBR := Lib.hid hbr
        clear hbr hlt hC
        go_wp2_with fail
        go_loop [12, 13, 14] (fun i _ _ => ∃ v : Nat, 1 ≤ v ∧ v ≤ 13 ∧ i = .int .i64 v) (fun i _ _ => 13 - (intOf i).toNat)
        case atStart => exact ⟨1, by omega, by omega, rfl⟩
        case round =>
          obtain ⟨v, hv1, hv2, rfl⟩ := hrel
          by_cases hv : v ≤ 12
          · obtain ⟨F1, F2⟩ := HE.out v hv1 hv
            have gw := HCC.out v (by omega)
            have h3 := HT3.out v
            have hmi2 : (v : Int) < 13 := by omega
            generalize Wt.getD v 0 = t at *
            clear E1 E2 E3 E4
            rcases h3 with rfl | rfl | rfl
            all_goals
              rw [show encW _ = _ from rfl] at F1 F2
              simp only [encW, Int.reduceNeg, Int.reduceEq, if_true, if_false] at F1 F2
              go_wp2_with (go_at_call 19; refine (value_any hA _ (by omega) (by omega)).mono ?_; rintro e w' ⟨rfl, rfl⟩)
              go_round
              case rel => exact ⟨v + 1, by omega, by omega, by go_num⟩
              case measure => go_light; simp [intOf]; omega
          · have hv13 : v = 13 := by omega
            subst hv13
            go_wp2_with (first
              | (go_at_call 19; refine (value_any hA _ (by omega) (by omega)).mono ?_; rintro e w' ⟨rfl, rfl⟩)
              | (go_at_call 13; refine (set_any hA7 _ (by omega) (by omega)).mono ?_; rintro e w8 ⟨rfl, hA8, hO8⟩)
              | (go_at_call 13; refine (set_any hA _ (by omega) (by omega)).mono ?_; rintro e w7 ⟨rfl, hA7, hO7⟩; rw [e13.out] at hA7))
            go_ret
            exact ⟨rfl, hO8.below (hO7.below HBR.out HBR.out.size hA.bq) (Nat.le_trans HBR.out.size hO7.size) hA.bq⟩
end Go.Proofs.Ytbofgnihockpmaa
