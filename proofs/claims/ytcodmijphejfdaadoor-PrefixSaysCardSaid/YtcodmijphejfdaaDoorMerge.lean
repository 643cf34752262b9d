/- The contract of prefix.Merge: the merged blocks, in memory of the call's own. Conditions: the slice reads as blocks, not too many, of not too many variables. -/
import Derived.Test.YtcodmijphejfdaaDoorBrow
import Derived.Test.YtcodmijphejfdaaDoorShelf
import Derived.BigQuiet
import Derived.Deep.QuietTactic
import Derived.RegionTactic
import Derived.Deep.RegionLaw
import Derived.Deep.RegionWith
namespace Go.Proofs.YtcodmijphejfdaaDoor
open Go.RowKit

/-- slices.Clone of a slice that has an element. -/
theorem clone_full (v : Value) (xs : List Int) (w : World) (hv : Row w v xs) (hn : xs.length ≤ 1000000000) (h0 : xs.length ≠ 0) :
    Calls Tryd.prog 40 #[v] w fun e w' => ∃ u, e = .returned u ∧ w'.ownsRow w.heap.size 3 1 u xs.length (xs.map (Value.int .i64)) ∧ Below w.heap.size w w' := by
  obtain ⟨a, c, rfl, h1, h2, h3⟩ := hv
  rcases h3 with h3 | ⟨b, off, rfl, hb, hc⟩
  · exact absurd h3 h0
  · refine (Tryd.slices_Clone_int b off xs.length c xs w (Nat.le_refl _) (by omega) hc).mono ?_
    rintro e w' ⟨u, rfl, ho, _, hbw⟩
    rw [List.take_length] at ho
    exact ⟨u, rfl, ho, hbw⟩

set_option maxHeartbeats 4000000 in
set_option maxRecDepth 100000 in
theorem merge_any (a : Option Addr) (c : Nat) (bs : List Blk) (w : World) (hq : BRowsAt w a c bs) (hn : bs.length ≤ 1000000000) (hv : (varsB bs).length ≤ 1000000000) :
    Calls Tryd.prog 15 #[.slice a bs.length c] w fun e w' => (∃ v vs, e = .returned v ∧ MgG w' w.heap.size v (mergeL bs) vs) ∧ Below w.heap.size w w' := by
  obtain ⟨hq1, hq2, hq3⟩ := hq
  unfold maxLen at hq2
  have HQ3 := Lib.hid hq3; clear hq3
  have HV : Hid (∀ k, k < bs.length → (varsB (bs.take k)).length + (bs.getD k blk0).2.length ≤ 1000000000) := fun k hk => by
    have h1 := congrArg List.length (varsB_take bs k hk)
    rw [List.length_append] at h1
    have h2 : (varsB (bs.take (k + 1))).length ≤ (varsB bs).length := by
      have : varsB bs = varsB (bs.take (k + 1)) ++ varsB (bs.drop (k + 1)) := by
        unfold varsB
        rw [← List.flatMap_append, List.take_append_drop]
      rw [this, List.length_append]; omega
    omega
  have HM := Lib.hid (fun k (hk : k < bs.length) => merge_take bs k hk)
  have HALL := Lib.hid (fun k (hk : k ≤ bs.length) => merge_all bs k hk)
  have HEND : Hid (mergeL (bs.take bs.length) = mergeL bs) := by rw [List.take_length]; rfl
  generalize hN : bs.length = n at *
  have HN := Lib.hid hN; clear hN
  go_enter Tryd.func15, Tryd.ntmps15
  go_wp2_with fail
  go_loopw [3, 5, 6, 9] (fun o _ _ i wr => ∃ (k : Nat) (vs : List Value), k ≤ n ∧ i = .int .i64 k ∧ MgG wr w.heap.size o (mergeL (bs.take k)) vs ∧ Below w.heap.size w wr) (fun _ _ _ i _ => n - (intOf i).toNat)
  case atStart => exact ⟨0, [], Nat.zero_le _, rfl, MgG.start _ _, Below.refl _ _⟩
  case round =>
    obtain ⟨k, vs, hk, rfl, hmg, hbr⟩ := hrel
    by_cases hlt : k < n
    · obtain ⟨b, off, ha, hbl, hc⟩ := HQ3.out.resolve_left (by omega)
      subst ha
      obtain ⟨f0, v, f1, hvr⟩ := hc k hlt
      clear hc
      have f0' := (hbr.cell (p := ⟨b, off + k * 2, none⟩) hbl).trans f0
      have f1' := (hbr.cell (p := ⟨b, off + k * 2 + 1, none⟩) hbl).trans f1
      have hvk := hvr.keep hbr
      clear f0 f1 hvr
      have HMK := Lib.hid (HM.out k hlt)
      obtain ⟨q1, q2, q3⟩ := HALL.out k hk
      have HVK := Lib.hid (HV.out k hlt)
      have HL := Lib.hid (fun i => varsB_len (mergeL (bs.take k)) i)
      rw [q2] at HL
      generalize hbk : bs.getD k blk0 = bk at *
      have HBK := Lib.hid hbk; clear hbk
      obtain ⟨ex, ys⟩ := bk
      generalize mergeL (bs.take k) = ms at *
      generalize (varsB (bs.take k)).length = nv at *
      clear q2 q1
      obtain ⟨av, cv, rfl, hv5, hv6, hrv⟩ := hvk
      have hbx : Below wr.heap.size wr (wr.alloc (.cells #[.bool ex, .slice av ys.length cv] 58)) := (Below.refl _ _).alloc (Nat.le_refl _) _
      have hm0 := hmg.keep hbx
      have hb0 : Below w.heap.size w (wr.alloc (.cells #[.bool ex, .slice av ys.length cv] 58)) := hbr.trans (hbx.mono hbr.size)
      have hra : RowAt (wr.alloc (.cells #[.bool ex, .slice av ys.length cv] 58)) av cv ys := RowAt.keep ⟨hv5, hv6, hrv⟩ hbx
      unfold maxLen at hv6
      by_cases h0 : ys.length = 0
      · have HR := Lib.hid (HMK.out.trans (step_zero ms _ h0))
        have HM0 := Lib.hid hm0
        have HB0 := Lib.hid hb0
        clear hbx hm0 hb0 hra hmg hbr HL
        obtain ⟨ao, mo, co, rfl⟩ := slice_of HM0.out.out
        generalize ys.length = ny at *
        subst h0
        go_wp2_with fail
        go_roundw
        case rel => exact ⟨k + 1, vs, by omega, by go_num, by rw [HR.out]; exact HM0.out, HB0.out⟩
        case measure => simp [intOf]; omega
      · have hny : ((ys.length : Int) == 0) = false := beq_eq_false_iff_ne.2 (by omega)
        have HRA := Lib.hid (fun W (hW : Below (wr.alloc (.cells #[.bool ex, .slice av ys.length cv] 58)).heap.size (wr.alloc (.cells #[.bool ex, .slice av ys.length cv] 58)) W) => row_cells (hra.keep hW))
        have HYL := Lib.hid (show (ys.map (Value.int .i64)).length = ys.length * 1 by simp)
        have HY1 := Lib.hid (ints_one ys)
        by_cases hj : 0 < ms.length ∧ (lastB ms).1 = ex
        · obtain ⟨hj1, hj2⟩ := hj
          obtain ⟨init, x, vi, u, g, cap, rfl, rfl, rfl, hcp, hcm, c0, c1, hur, hlx, hug⟩ := hm0.lastOf hj1
          rw [hlx] at hj2
          have HR := Lib.hid (HMK.out.trans (step_join init x _ h0 hj2))
          obtain ⟨xe, xl⟩ := x
          have hj3 : xe = ex := hj2
          subst hj3
          have hxl : xl.length ≤ nv := by
            have := HL.out init.length
            rw [getD_snoc, if_neg (by omega), if_pos rfl] at this
            exact this
          have hgw : g < wr.heap.size + 1 := by have := own_ltG hm0.out rfl; simpa using this
          have hgf := own_free (n := init.length + 1) (by have := hm0.out; simpa using this) (init.length * 2 + 1)
          have HUR := Lib.hid hur
          have HM0 := Lib.hid hm0
          have HB0 := Lib.hid hb0
          have HHB := Lib.hid hbr.size
          have hge := (hm0.out.lt g rfl).1
          have HCX : Hid (∀ W W' u', Below (wr.alloc (.cells #[.bool xe, .slice av ys.length cv] 58)).heap.size (wr.alloc (.cells #[.bool xe, .slice av ys.length cv] 58)) W → App w.heap.size W W' u u' →
              W'.cell? ⟨g, init.length * 2 + 1, none⟩ = some u ∧ W'.frozen? ⟨g, init.length * 2 + 1, none⟩ = false) := fun W W' u' hW ha => by
            have hlt : g < W.heap.size := Nat.lt_of_lt_of_le (by simpa using hgw) hW.size
            have hbk := ha.other g hlt fun e => hug e.symm
            exact ⟨(World.cell?_of_block (a := ⟨g, init.length * 2 + 1, none⟩) hbk).trans ((hW.cell (p := ⟨g, init.length * 2 + 1, none⟩) (by simpa using hgw)).trans c1),
              (World.frozen?_of_block (a := ⟨g, init.length * 2 + 1, none⟩) hbk).trans ((hW.frozen (p := ⟨g, init.length * 2 + 1, none⟩) (by simpa using hgw)).trans hgf)⟩
          have HFIN : Hid (∀ W W' u', Below (wr.alloc (.cells #[.bool xe, .slice av ys.length cv] 58)).heap.size (wr.alloc (.cells #[.bool xe, .slice av ys.length cv] 58)) W → App w.heap.size W W' u u' → W'.ownsRow w.heap.size 3 1 u' (xl ++ ys).length ((xl ++ ys).map (Value.int .i64)) →
              MgG (W'.setCell ⟨g, init.length * 2 + 1, none⟩ u') w.heap.size (.slice (some ⟨g, 0, none⟩) (init.length + 1) cap) (init ++ [(xe, xl ++ ys)]) (vi ++ [u']) ∧ Below w.heap.size w (W'.setCell ⟨g, init.length * 2 + 1, none⟩ u')) := fun W W' u' hW h1 h2 =>
            ⟨MgG.last (hm0.keep hW) h1 h2 xe rfl, ((hb0.trans (hW.mono hb0.size)).trans h1.below).setCell (by exact hge) _⟩
          have hvk : xl.length + ys.length ≤ 1000000000 := by
            have := HVK.out
            simp at this
            omega
          have HNL : Hid ((xl ++ ys).length = xl.length + ys.length ∧ (xl ++ ys).map (Value.int .i64) = xl.map (Value.int .i64) ++ ys.map (Value.int .i64)) := ⟨by simp, by simp⟩
          have hmk : init.length + 1 ≤ k := by simpa using q3
          obtain ⟨au, nu, cu, rfl⟩ := slice_of hur
          clear hbx hm0 hb0 hra hmg hbr HL hur hlx hj1 hj2 HMK
          generalize hxy : (xl ++ ys) = xy at *
          clear hxy
          generalize xl.map (Value.int .i64) = fx at *
          generalize ys.map (Value.int .i64) = fy at *
          generalize xl.length = nx at *
          generalize ys.length = ny at *
          generalize init.length = m at *
          have hd0 : decide ((0 : Int) ≤ (m : Int)) = true := by simp
          have hee : (xe == xe) = true := by simp
          have hm1 : (m : Int) < (m : Int) + 1 := by omega
          go_wp2_with fail
          go_quiet (fail)
          go_wp2_with fail
          go_region_law (refine step_appC 30 3 _ 1 8 Tryd.underlying30 infoInt rfl (by decide) (by decide) rfl _ _ rfl _ w.heap.size (.slice au nu cu) nx fx av ny cv fy (by exact own_keep HUR.out (by first | exact Below.refl _ _ | exact (Below.refl _ _).drew | exact below_drewN (Below.refl _ _) _)) (by have := HHB.out; simp; omega) (by omega) HYL.out (HRA.out _ (by first | exact Below.refl _ _ | exact (Below.refl _ _).drew | exact below_drewN (Below.refl _ _) _)) HY1.out rfl rfl ?_; intro u' w2 hown2 hap2; obtain ⟨x0, x1⟩ := HCX.out _ _ _ (by first | exact Below.refl _ _ | exact (Below.refl _ _).drew | exact below_drewN (Below.refl _ _) _) hap2; have HFN := Lib.hid (HFIN.out _ _ _ (by first | exact Below.refl _ _ | exact (Below.refl _ _).drew | exact below_drewN (Below.refl _ _) _) hap2 (by rw [HNL.out.1, HNL.out.2]; exact hown2)); obtain ⟨au', nu', cu', rfl⟩ := slice_of hown2)
          all_goals
            go_wp2_with fail
            go_roundw
          all_goals first
            | exact ⟨k + 1, _, by omega, by go_num, by rw [HR.out]; exact HFN.out.1, HFN.out.2⟩
            | (simp [intOf]; omega)
        · have HR := Lib.hid (HMK.out.trans (step_new ms _ h0 fun h1 h2 => hj ⟨h1, h2⟩))
          have HHB := Lib.hid hbr.size
          have hyb : ys.length ≤ 1000000000 := by
            have := HVK.out
            simp at this
            omega
          have HCL := Lib.hid (fun W (hW : Below (wr.alloc (.cells #[.bool ex, .slice av ys.length cv] 58)).heap.size (wr.alloc (.cells #[.bool ex, .slice av ys.length cv] 58)) W) => clone_full (.slice av ys.length cv) ys W ⟨av, cv, rfl, hra.keep hW⟩ hyb h0)
          have HFIN : Hid (∀ W2 w3 u2 o', Below (wr.alloc (.cells #[.bool ex, .slice av ys.length cv] 58)).heap.size (wr.alloc (.cells #[.bool ex, .slice av ys.length cv] 58)) W2 → W2.ownsRow _ 3 1 u2 ys.length (ys.map (Value.int .i64)) → App w.heap.size (W2.alloc (.cells #[.bool ex, u2] 58)) w3 _ o' → w3.ownsRow w.heap.size 58 2 o' (ms.length + 1) (flB ms vs ++ [.bool ex, u2]) →
              MgG w3 w.heap.size o' (ms ++ [(ex, ys)]) (vs ++ [u2]) ∧ Below w.heap.size w w3) := fun W2 w3 u2 o' hW hu ha ho =>
            ⟨MgG.fresh hm0 hb0.size hW hu _ ha ho, ((hb0.trans (hW.mono hb0.size)).alloc (Nat.le_trans hb0.size hW.size) _).trans ha.below⟩
          have HOW := Lib.hid (fun W (hW : Below (wr.alloc (.cells #[.bool ex, .slice av ys.length cv] 58)).heap.size (wr.alloc (.cells #[.bool ex, .slice av ys.length cv] 58)) W) => own_keep hm0.out hW)
          have HC2 : Hid (∀ W, Below (wr.alloc (.cells #[.bool ex, .slice av ys.length cv] 58)).heap.size (wr.alloc (.cells #[.bool ex, .slice av ys.length cv] 58)) W → W.cell? ⟨wr.heap.size, 0, none⟩ = some (.bool ex) ∧ W.cell? ⟨wr.heap.size, 1, none⟩ = some (.slice av ys.length cv)) := fun W h => cells2 _ _ _ _ _ h
          have HTR : Hid (∀ W W2, Below (wr.alloc (.cells #[.bool ex, .slice av ys.length cv] 58)).heap.size (wr.alloc (.cells #[.bool ex, .slice av ys.length cv] 58)) W → Below W.heap.size W W2 → Below (wr.alloc (.cells #[.bool ex, .slice av ys.length cv] 58)).heap.size (wr.alloc (.cells #[.bool ex, .slice av ys.length cv] 58)) W2) := fun W W2 h1 h2 => h1.trans (h2.mono h1.size)
          by_cases hm : 0 < ms.length
          · obtain ⟨init, x, vi, u, g, cap, e1, _, rfl, hcp, hcm, c0, c1, _, hlx, _⟩ := hm0.lastOf hm
            have hne : (x.1 == ex) = false := by
              rw [beq_eq_false_iff_ne]
              intro e
              exact hj ⟨hm, by rw [hlx]; exact e⟩
            have hml : ms.length = init.length + 1 := by rw [e1]; simp
            clear hbx hm0 hb0 hra hmg hbr HL HMK hj hm hlx e1
            generalize x.1 = xe at *
            generalize flB ms vs = fm at *
            generalize hzs : ys.map (Value.int .i64) = zs at *
            clear hzs
            generalize ys.length = ny at *
            generalize ms.length = m at *
            generalize init.length = pm at *
            subst hml
            unfold maxLen at hcm
            have hd0 : decide ((0 : Int) ≤ (pm : Int)) = true := by simp
            have hm1 : (pm : Int) < (pm : Int) + 1 := by omega
            go_wp2_with fail
            go_quiet (fail)
            go_wp2_with fail
            go_region_law (first
              | (go_simp; go_at_call 40; refine (HCL.out _ (by first | exact Below.refl _ _ | exact (Below.refl _ _).drew | exact below_drewN (Below.refl _ _) _)).mono ?_; rintro e w2 ⟨u2, rfl, hu2, hb2⟩; obtain ⟨cu2, ku2, rfl⟩ := own_shape3 hu2; have HW2 := Lib.hid (HTR.out _ w2 (by first | exact Below.refl _ _ | exact (Below.refl _ _).drew | exact below_drewN (Below.refl _ _) _) hb2); obtain ⟨y0, y1⟩ := HC2.out _ HW2.out)
              | (refine step_appC 22 58 _ 2 32 Tryd.underlying22 infoBlk rfl (by decide) (by decide) rfl _ _ rfl _ w.heap.size _ (pm + 1) fm (some ⟨w2.heap.size, 0, none⟩) 1 1 [.bool ex, .slice cu2 ny ku2] (HOW.out _ (HW2.out.trans (by first | exact (Below.refl _ _).alloc HW2.out.size _ | exact ((Below.refl _ _).alloc HW2.out.size _).drew))) (by have := HHB.out; have := HW2.out.size; simp at this ⊢; omega) (by omega) rfl (.inr ⟨_, rfl, by first | exact cells_new _ [.bool ex, .slice cu2 ny ku2] _⟩) (two_one ex hu2) rfl rfl ?_; intro o' w3 hown3 hap3; have HFN := Lib.hid (HFIN.out _ _ _ _ HW2.out hu2 hap3 hown3); obtain ⟨ao', mo', co', rfl⟩ := slice_of hown3))
            all_goals
              go_wp2_with fail
              go_roundw
            all_goals first
              | exact ⟨k + 1, _, by omega, by go_num, by rw [HR.out]; exact HFN.out.1, HFN.out.2⟩
              | (simp [intOf]; omega)
          · have hm0' : ms.length = 0 := by omega
            obtain ⟨ao, co, rfl⟩ := own_shape3 hm0.out
            clear hbx hm0 hb0 hra hmg hbr HL HMK hj hm
            generalize flB ms vs = fm at *
            generalize hzs : ys.map (Value.int .i64) = zs at *
            clear hzs
            generalize ys.length = ny at *
            generalize ms.length = m at *
            subst hm0'
            go_wp2_with fail
            go_quiet (fail)
            go_wp2_with fail
            go_region_law (first
              | (go_simp; go_at_call 40; refine (HCL.out _ (by first | exact Below.refl _ _ | exact (Below.refl _ _).drew | exact below_drewN (Below.refl _ _) _)).mono ?_; rintro e w2 ⟨u2, rfl, hu2, hb2⟩; obtain ⟨cu2, ku2, rfl⟩ := own_shape3 hu2; have HW2 := Lib.hid (HTR.out _ w2 (by first | exact Below.refl _ _ | exact (Below.refl _ _).drew | exact below_drewN (Below.refl _ _) _) hb2); obtain ⟨y0, y1⟩ := HC2.out _ HW2.out)
              | (refine step_appC 22 58 _ 2 32 Tryd.underlying22 infoBlk rfl (by decide) (by decide) rfl _ _ rfl _ w.heap.size _ 0 fm (some ⟨w2.heap.size, 0, none⟩) 1 1 [.bool ex, .slice cu2 ny ku2] (HOW.out _ (HW2.out.trans (by first | exact (Below.refl _ _).alloc HW2.out.size _ | exact ((Below.refl _ _).alloc HW2.out.size _).drew))) (by have := HHB.out; have := HW2.out.size; simp at this ⊢; omega) (by omega) rfl (.inr ⟨_, rfl, by first | exact cells_new _ [.bool ex, .slice cu2 ny ku2] _⟩) (two_one ex hu2) rfl rfl ?_; intro o' w3 hown3 hap3; have HFN := Lib.hid (HFIN.out _ _ _ _ HW2.out hu2 hap3 hown3); obtain ⟨ao', mo', co', rfl⟩ := slice_of hown3))
            all_goals
              go_wp2_with fail
              go_roundw
            all_goals first
              | exact ⟨k + 1, _, by omega, by go_num, by rw [HR.out]; exact HFN.out.1, HFN.out.2⟩
              | (simp [intOf]; omega)
    · have hkn : k = n := by omega
      subst hkn
      have HMG := Lib.hid hmg
      have HBR := Lib.hid hbr
      clear hmg hbr
      go_wp2_with fail
      go_ret
      have := HMG.out
      rw [HEND.out] at this
      exact ⟨⟨_, vs, rfl, this⟩, HBR.out⟩
end Go.Proofs.YtcodmijphejfdaaDoor
