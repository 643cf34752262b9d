/- The contract of the document's own skolemref1.Merge: the merged blocks, in memory of the call's own. Conditions: the slice reads as blocks, not too many, of not too many variables. -/
import Derived.Test.YtcodmijphejfdaaDoorBrow
import Derived.Test.YtcodmijphejfdaaDoorRef
import Derived.Test.YtcodmijphejfdaaDoorIntsR
import Derived.BigQuiet
import Derived.Deep.QuietTactic
import Derived.RegionTactic
import Derived.Deep.RegionLaw
import Derived.Deep.RegionWith
namespace Go.Proofs.YtcodmijphejfdaaDoor
open Go.RowKit

/-- A new row in an old one's place. -/
theorem app_fresh {w w' : World} {B : Nat} {u u' : Value} {e : TypeId} {size n : Nat} {xs : List Value} (h : Below w.heap.size w w') (hB : B ≤ w.heap.size) (ho : w'.ownsRow w.heap.size e size u' n xs) (hn : n ≠ 0) : App B w w' u u' :=
  ⟨h.mono hB, fun k hk _ => h.block k hk, .inr (by
    rcases ho.2 with ⟨_, h0⟩ | ⟨g, cap, cur, hv, hg, _⟩
    · exact absurd h0 hn
    · exact ⟨g, by rw [hv]; rfl, hg⟩)⟩

set_option maxHeartbeats 4000000 in
set_option maxRecDepth 100000 in
theorem refMerge_any (a : Option Addr) (c : Nat) (bs : List Blk) (w : World) (hq : BRowsAt w a c bs) (hn : bs.length ≤ 1000000000) (hv : (varsB bs).length < 1000000000) :
    Calls Tryd.prog 16 #[.slice a bs.length c] w fun e w' => (∃ v vs, e = .returned v ∧ MgG w' w.heap.size v (mergeL bs) vs) ∧ Below w.heap.size w w' := by
  obtain ⟨hq1, hq2, hq3⟩ := hq
  unfold maxLen at hq2
  have HQ3 := Lib.hid hq3; clear hq3
  have HV : Hid (∀ k, k < bs.length → (varsB (bs.take k)).length + (bs.getD k blk0).2.length < 1000000000) := fun k hk => by
    have h1 := congrArg List.length (varsB_take bs k hk)
    rw [List.length_append] at h1
    have h2 : (varsB (bs.take (k + 1))).length ≤ (varsB bs).length := by
      have : varsB bs = varsB (bs.take (k + 1)) ++ varsB (bs.drop (k + 1)) := by
        unfold varsB
        rw [← List.flatMap_append, List.take_append_drop]
      rw [this, List.length_append]; omega
    omega
  have HM := Lib.hid (fun k (hk : k < bs.length) => merge_take bs k hk)
  have HALL := Lib.hid (fun k (hk : k ≤ bs.length) => merge_all bs k hk)
  have HEND : Hid (mergeL (bs.take bs.length) = mergeL bs) := by rw [List.take_length]; rfl
  generalize hN : bs.length = n at *
  have HN := Lib.hid hN; clear hN
  go_enter Tryd.func16, Tryd.ntmps16
  go_wp2_with fail
  go_loopw [3, 4, 5] (fun o i _ wr => ∃ (k : Nat) (vs : List Value), k ≤ n ∧ i = .int .i64 k ∧ MgG wr w.heap.size o (mergeL (bs.take k)) vs ∧ Below w.heap.size w wr) (fun _ i _ _ => n - (intOf i).toNat)
  case atStart => exact ⟨0, [], Nat.zero_le _, rfl, MgG.start _ _, Below.refl _ _⟩
  case round =>
    obtain ⟨k, vs, hk, rfl, hmg, hbr⟩ := hrel
    by_cases hlt : k < n
    · obtain ⟨b, off, ha, hbl, hc⟩ := HQ3.out.resolve_left (by omega)
      subst ha
      obtain ⟨f0, v, f1, hvr⟩ := hc k hlt
      clear hc
      have f0' := (hbr.cell (p := ⟨b, off + k * 2, none⟩) hbl).trans f0
      have f1' := (hbr.cell (p := ⟨b, off + k * 2 + 1, none⟩) hbl).trans f1
      have hvk := hvr.keep hbr
      have hbl' : b < wr.heap.size := Nat.lt_of_lt_of_le hbl hbr.size
      clear f0 f1 hvr
      have HMK := Lib.hid (HM.out k hlt)
      obtain ⟨q1, q2, q3⟩ := HALL.out k hk
      have HVK := Lib.hid (HV.out k hlt)
      have HL := Lib.hid (fun i => varsB_len (mergeL (bs.take k)) i)
      rw [q2] at HL
      generalize hbk : bs.getD k blk0 = bk at *
      have HBK := Lib.hid hbk; clear hbk
      obtain ⟨ex, ys⟩ := bk
      generalize mergeL (bs.take k) = ms at *
      generalize (varsB (bs.take k)).length = nv at *
      clear q2 q1
      obtain ⟨av, cv, rfl, hv5, hv6, hrv⟩ := hvk
      have hra : RowAt wr av cv ys := ⟨hv5, hv6, hrv⟩
      have HLC : Hid (∀ W, Below wr.heap.size wr W → W.cell? ⟨b, off + k * 2, none⟩ = some (.bool ex) ∧ W.cell? ⟨b, off + k * 2 + 1, none⟩ = some (.slice av ys.length cv)) := fun W h => ⟨(h.cell (p := ⟨b, off + k * 2, none⟩) hbl').trans f0', (h.cell (p := ⟨b, off + k * 2 + 1, none⟩) hbl').trans f1'⟩
      unfold maxLen at hv6
      by_cases h0 : ys.length = 0
      · have HR := Lib.hid (HMK.out.trans (step_zero ms _ h0))
        have HM0 := Lib.hid hmg
        have HB0 := Lib.hid hbr
        clear hra hmg hbr HL HLC
        obtain ⟨ao, co, rfl⟩ := own_shape3 HM0.out.out
        generalize ms.length = mm at *
        generalize ys.length = ny at *
        subst h0
        go_wp2_with fail
        go_roundw
        case rel => exact ⟨k + 1, vs, by omega, by go_num, by rw [HR.out]; exact HM0.out, HB0.out⟩
        case measure => simp [intOf]; omega
      · have hny : ((ys.length : Int) == 0) = false := beq_eq_false_iff_ne.2 (by omega)
        have HRA := Lib.hid (fun W (hW : Below wr.heap.size wr W) => row_cells (hra.keep hW))
        have HYL := Lib.hid (show (ys.map (Value.int .i64)).length = ys.length * 1 by simp)
        have HY1 := Lib.hid (ints_one ys)
        by_cases hj : 0 < ms.length ∧ (lastB ms).1 = ex
        · obtain ⟨hj1, hj2⟩ := hj
          obtain ⟨init, x, vi, u, g, cap, rfl, rfl, rfl, hcp, hcm, c0, c1, hur, hlx, hug⟩ := hmg.lastOf hj1
          rw [hlx] at hj2
          have HR := Lib.hid (HMK.out.trans (step_join init x _ h0 hj2))
          obtain ⟨xe, xl⟩ := x
          have hj3 : xe = ex := hj2
          subst hj3
          have hxl : xl.length ≤ nv := by
            have := HL.out init.length
            rw [getD_snoc, if_neg (by omega), if_pos rfl] at this
            exact this
          have hgw : g < wr.heap.size := own_ltG hmg.out rfl
          have hgf := own_free (n := init.length + 1) (by have := hmg.out; simpa using this) (init.length * 2 + 1)
          have HHB := Lib.hid hbr.size
          have hge := (hmg.out.lt g rfl).1
          have hxn : xl.length < 1000000000 := by have := HVK.out; simp at this; omega
          have HIN := Lib.hid (fun W (hW : Below wr.heap.size wr W) => ints_any u xl W ((own_row hur).keep hW) hxn)
          have HC2 : Hid (∀ W, Below wr.heap.size wr W → W.cell? ⟨g, init.length * 2 + 1, none⟩ = some u ∧ W.frozen? ⟨g, init.length * 2 + 1, none⟩ = false ∧ W.cell? ⟨b, off + k * 2 + 1, none⟩ = some (.slice av ys.length cv)) := fun W h =>
            ⟨(h.cell (p := ⟨g, init.length * 2 + 1, none⟩) hgw).trans c1, (h.frozen (p := ⟨g, init.length * 2 + 1, none⟩) hgw).trans hgf, (HLC.out W h).2⟩
          have HFIN : Hid (∀ W' u', Below wr.heap.size wr W' → W'.ownsRow wr.heap.size 3 1 u' (xl ++ ys).length ((xl ++ ys).map (Value.int .i64)) →
              MgG (W'.setCell ⟨g, init.length * 2 + 1, none⟩ u') w.heap.size (.slice (some ⟨g, 0, none⟩) (init.length + 1) cap) (init ++ [(xe, xl ++ ys)]) (vi ++ [u']) ∧ Below w.heap.size w (W'.setCell ⟨g, init.length * 2 + 1, none⟩ u')) := fun W' u' hW ho =>
            ⟨MgG.last hmg (app_fresh hW hbr.size ho (by rw [List.length_append]; omega)) (own_base ho hbr.size) xe rfl, (hbr.trans (hW.mono hbr.size)).setCell (by exact hge) _⟩
          have hvk : xl.length + ys.length ≤ 1000000000 := by
            have := HVK.out
            simp at this
            omega
          have HNL : Hid ((xl ++ ys).length = xl.length + ys.length ∧ (xl ++ ys).map (Value.int .i64) = xl.map (Value.int .i64) ++ ys.map (Value.int .i64)) := ⟨by simp, by simp⟩
          have hmk : init.length + 1 ≤ k := by simpa using q3
          obtain ⟨au, cu, rfl⟩ := own_shape3 hur
          clear hra hmg hbr HL hur hlx hj1 hj2 HMK HLC hxn
          generalize hxy : (xl ++ ys) = xy at *
          clear hxy
          generalize xl.map (Value.int .i64) = fx at *
          generalize ys.map (Value.int .i64) = fy at *
          generalize xl.length = nx at *
          generalize ys.length = ny at *
          rw [show (init ++ [(xe, xl)]).length = init.length + 1 by simp] at *
          generalize init.length = m at *
          unfold maxLen at hcm
          have hd0 : decide ((0 : Int) < (m : Int) + 1) = true := decide_eq_true (by omega)
          have hee : (xe == xe) = true := by simp
          have hm1 : (m : Int) < (m : Int) + 1 := by omega
          have hm2 : (0 : Int) ≤ (m : Int) := by omega
          have hwm : IntKind.i64.wrap (m : Int) = m := IntWalk.i64_in _ (by omega)
          go_wp2_with fail
          go_quiet (fail)
          go_wp2_with fail
          go_region_law (first
            | (go_simp; go_at_call 38; refine (HIN.out _ (by first | exact Below.refl _ _ | exact (Below.refl _ _).drew | exact below_drewN (Below.refl _ _) _)).mono ?_; rintro e wI ⟨vI, rfl, hoI, hbI⟩; have HWI := Lib.hid (show Below wr.heap.size wr wI from below_call (by first | exact Below.refl _ _ | exact (Below.refl _ _).drew | exact below_drewN (Below.refl _ _) _) (by first | exact Nat.le_refl _ | simp) hbI); obtain ⟨y0, y1, y2⟩ := HC2.out _ HWI.out; have HOI := Lib.hid (show wI.ownsRow wr.heap.size 3 1 vI nx fx from own_base hoI (by first | exact Nat.le_refl _ | simp)); obtain ⟨aI, cI, rfl⟩ := own_shape3 hoI; clear hoI hbI)
            | (refine step_appC 30 3 _ 1 8 Tryd.underlying30 infoInt rfl (by decide) (by decide) rfl _ _ rfl _ wr.heap.size (.slice aI nx cI) nx fx av ny cv fy (by exact own_keep HOI.out (by first | exact Below.refl _ _ | exact (Below.refl _ _).drew | exact below_drewN (Below.refl _ _) _)) (by have := HWI.out.size; first | exact this | (simp; exact this)) (by omega) HYL.out (HRA.out _ (by first | exact HWI.out | exact HWI.out.drew | exact below_drewN HWI.out _)) HY1.out rfl rfl ?_; intro u' w2 hown2 hap2; have HW2 := Lib.hid (show Below wr.heap.size wr w2 from (by first | exact HWI.out.trans hap2.below | exact HWI.out.drew.trans hap2.below | exact (below_drewN HWI.out _).trans hap2.below)); obtain ⟨x0, x1, _⟩ := HC2.out _ HW2.out; have HFN := Lib.hid (HFIN.out _ _ HW2.out (by rw [HNL.out.1, HNL.out.2]; exact hown2)); obtain ⟨au', cu', rfl⟩ := own_shape3 hown2))
          all_goals
            go_wp2_with fail
            go_roundw
          all_goals first
            | exact ⟨k + 1, _, by omega, by go_num, by rw [HR.out]; exact HFN.out.1, HFN.out.2⟩
            | (simp [intOf]; omega)
        · have HR := Lib.hid (HMK.out.trans (step_new ms _ h0 fun h1 h2 => hj ⟨h1, h2⟩))
          have HHB := Lib.hid hbr.size
          have hyb : ys.length < 1000000000 := by
            have := HVK.out
            simp at this
            omega
          have HIN := Lib.hid (fun W (hW : Below wr.heap.size wr W) => ints_any (.slice av ys.length cv) ys W ⟨av, cv, rfl, hra.keep hW⟩ hyb)
          have HFIN : Hid (∀ W2 w3 u2 o', Below wr.heap.size wr W2 → W2.ownsRow wr.heap.size 3 1 u2 ys.length (ys.map (Value.int .i64)) → App w.heap.size (W2.alloc (.cells #[.bool ex, u2] 58)) w3 _ o' → w3.ownsRow w.heap.size 58 2 o' (ms.length + 1) (flB ms vs ++ [.bool ex, u2]) →
              MgG w3 w.heap.size o' (ms ++ [(ex, ys)]) (vs ++ [u2]) ∧ Below w.heap.size w w3) := fun W2 w3 u2 o' hW hu ha ho =>
            ⟨MgG.fresh hmg hbr.size hW hu _ ha ho, ((hbr.trans (hW.mono hbr.size)).alloc (Nat.le_trans hbr.size hW.size) _).trans ha.below⟩
          have HOW := Lib.hid (fun W (hW : Below wr.heap.size wr W) => own_keep hmg.out hW)
          have hmk2 : ms.length ≤ k := q3
          by_cases hm : 0 < ms.length
          · obtain ⟨init, x, vi, u, g, cap, e1, _, rfl, hcp, hcm, c0, c1, _, hlx, _⟩ := hmg.lastOf hm
            have hne : (x.1 == ex) = false := by
              rw [beq_eq_false_iff_ne]
              intro e
              exact hj ⟨hm, by rw [hlx]; exact e⟩
            have hml : ms.length = init.length + 1 := by rw [e1]; simp
            clear hra hmg hbr HL HMK hj hm hlx e1
            generalize x.1 = xe at *
            generalize flB ms vs = fm at *
            generalize hzs : ys.map (Value.int .i64) = zs at *
            clear hzs
            generalize ys.length = ny at *
            generalize ms.length = m at *
            generalize init.length = pm at *
            subst hml
            unfold maxLen at hcm
            have hd0 : decide ((0 : Int) < (pm : Int) + 1) = true := decide_eq_true (by omega)
            have hm1 : (pm : Int) < (pm : Int) + 1 := by omega
            go_wp2_with fail
            go_quiet (fail)
            go_wp2_with fail
            go_region_law (first
              | (go_simp; go_at_call 38; refine (HIN.out _ (by first | exact Below.refl _ _ | exact (Below.refl _ _).drew | exact below_drewN (Below.refl _ _) _)).mono ?_; rintro e w2 ⟨u2, rfl, hu2', hb2⟩; have hu2 : w2.ownsRow wr.heap.size 3 1 u2 ny zs := own_base hu2' (by first | exact Nat.le_refl _ | simp); have HW2 := Lib.hid (show Below wr.heap.size wr w2 from below_call (by first | exact Below.refl _ _ | exact (Below.refl _ _).drew | exact below_drewN (Below.refl _ _) _) (by first | exact Nat.le_refl _ | simp) hb2); clear hu2' hb2; obtain ⟨cu2, ku2, rfl⟩ := own_shape3 hu2; obtain ⟨y0, y1⟩ := HLC.out _ HW2.out)
              | (refine step_appC 22 58 _ 2 32 Tryd.underlying22 infoBlk rfl (by decide) (by decide) rfl _ _ rfl _ w.heap.size _ (pm + 1) fm (some ⟨w2.heap.size, 0, none⟩) 1 1 [.bool ex, .slice cu2 ny ku2] (HOW.out _ (HW2.out.trans (by first | exact (Below.refl _ _).alloc HW2.out.size _ | exact ((Below.refl _ _).alloc HW2.out.size _).drew))) (by have := HHB.out; have := HW2.out.size; simp at this ⊢; omega) (by omega) rfl (.inr ⟨_, rfl, by first | exact cells_new _ [.bool ex, .slice cu2 ny ku2] _⟩) (two_one ex hu2) rfl rfl ?_; intro o' w3 hown3 hap3; have HFN := Lib.hid (HFIN.out _ _ _ _ HW2.out hu2 hap3 hown3); obtain ⟨ao', mo', co', rfl⟩ := slice_of hown3))
            all_goals
              go_wp2_with fail
              go_roundw
            all_goals first
              | exact ⟨k + 1, _, by omega, by go_num, by rw [HR.out]; exact HFN.out.1, HFN.out.2⟩
              | (simp [intOf]; omega)
          · have hm0' : ms.length = 0 := by omega
            obtain ⟨ao, co, rfl⟩ := own_shape3 hmg.out
            clear hra hmg hbr HL HMK hj hm
            generalize flB ms vs = fm at *
            generalize hzs : ys.map (Value.int .i64) = zs at *
            clear hzs
            generalize ys.length = ny at *
            generalize ms.length = m at *
            subst hm0'
            go_wp2_with fail
            go_quiet (fail)
            go_wp2_with fail
            go_region_law (first
              | (go_simp; go_at_call 38; refine (HIN.out _ (by first | exact Below.refl _ _ | exact (Below.refl _ _).drew | exact below_drewN (Below.refl _ _) _)).mono ?_; rintro e w2 ⟨u2, rfl, hu2', hb2⟩; have hu2 : w2.ownsRow wr.heap.size 3 1 u2 ny zs := own_base hu2' (by first | exact Nat.le_refl _ | simp); have HW2 := Lib.hid (show Below wr.heap.size wr w2 from below_call (by first | exact Below.refl _ _ | exact (Below.refl _ _).drew | exact below_drewN (Below.refl _ _) _) (by first | exact Nat.le_refl _ | simp) hb2); clear hu2' hb2; obtain ⟨cu2, ku2, rfl⟩ := own_shape3 hu2; obtain ⟨y0, y1⟩ := HLC.out _ HW2.out)
              | (refine step_appC 22 58 _ 2 32 Tryd.underlying22 infoBlk rfl (by decide) (by decide) rfl _ _ rfl _ w.heap.size _ 0 fm (some ⟨w2.heap.size, 0, none⟩) 1 1 [.bool ex, .slice cu2 ny ku2] (HOW.out _ (HW2.out.trans (by first | exact (Below.refl _ _).alloc HW2.out.size _ | exact ((Below.refl _ _).alloc HW2.out.size _).drew))) (by have := HHB.out; have := HW2.out.size; simp at this ⊢; omega) (by omega) rfl (.inr ⟨_, rfl, by first | exact cells_new _ [.bool ex, .slice cu2 ny ku2] _⟩) (two_one ex hu2) rfl rfl ?_; intro o' w3 hown3 hap3; have HFN := Lib.hid (HFIN.out _ _ _ _ HW2.out hu2 hap3 hown3); obtain ⟨ao', mo', co', rfl⟩ := slice_of hown3))
            all_goals
              go_wp2_with fail
              go_roundw
            all_goals first
              | exact ⟨k + 1, _, by omega, by go_num, by rw [HR.out]; exact HFN.out.1, HFN.out.2⟩
              | (simp [intOf]; omega)
    · have hkn : k = n := by omega
      subst hkn
      rw [HEND.out] at hmg
      have HMG := Lib.hid hmg
      have HBR := Lib.hid hbr
      obtain ⟨ao, co, rfl⟩ := own_shape3 HMG.out.out
      clear hmg hbr
      go_wp2_with fail
      go_ret
      exact ⟨⟨_, vs, rfl, HMG.out⟩, HBR.out⟩
end Go.Proofs.YtcodmijphejfdaaDoor
