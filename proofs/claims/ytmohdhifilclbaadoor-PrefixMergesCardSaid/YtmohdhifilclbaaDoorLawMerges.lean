/- The law PrefixMerges: true for whatever blocks. Conditions: the slice reads as blocks; the three errors lie as 'Sents3' says. -/
import Derived.Test.YtmohdhifilclbaaDoorNormZ
import Derived.Test.YtmohdhifilclbaaDoorHas
import Derived.Test.YtmohdhifilclbaaDoorOpenFm
namespace Go.Proofs.YtmohdhifilclbaaDoor
open Go.RowKit

/-- skolemref.SameBlocks of merged blocks. -/
theorem mgG_rows {w : World} {B : Nat} {o : Value} {bs : List Blk} {vs : List Value} (h : MgG w B o bs vs) : ∃ a cap, o = .slice a bs.length cap ∧ BRowsAt w a cap bs := h.blG.rows

set_option maxHeartbeats 4000000 in
set_option maxRecDepth 100000 in
theorem lawMerges_any (A : Nat → Addr) (a : Option Addr) (c : Nat) (bs : List Blk) (w : World) (hS : Sents3 w A) (hq : BRowsAt w a c bs) :
    Calls Tryd.prog 5 #[.slice a bs.length c] w fun e w' => e = .returned (.bool true) ∧ Below w.heap.size w w' := by
  have HF := Lib.hid (first6_any A w hS)
  have HMG := Lib.hid (fun W (hW : Below w.heap.size w W) => merge_any a c bs W (hq.keep hW))
  obtain ⟨hq1, hq2, hq3⟩ := hq
  unfold maxLen at hq2
  have HQ3 := Lib.hid hq3; clear hq3
  have HV2 := Lib.hid (fun k (hk : k < bs.length) => varsB_take bs k hk)
  have HBD : Hid (∀ k, k ≤ bs.length → (∀ j, j < k → (bs.getD j blk0).2.length ≤ 30) → (varsB (bs.take k)).length ≤ k * 30) := fun k => by
    induction k with
    | zero => intro _ _; simp [varsB]
    | succ k ih =>
      intro h1 h2
      have := ih (by omega) fun j hj => h2 j (by omega)
      have h3 := h2 k (by omega)
      rw [varsB_take bs k (by omega), List.length_append]
      omega
  have HE1 : Hid (varsB (bs.take bs.length) = varsB bs) := by rw [List.take_length]; rfl
  clear hS
  generalize hN : bs.length = n at *
  have HN := Lib.hid hN; clear hN
  by_cases h8 : 8 < n
  · have hd : decide ((8 : Int) < (n : Int)) = true := decide_eq_true (by omega)
    have hd' : decide (8 < n) = true := decide_eq_true h8
    go_enter Tryd.func5, Tryd.ntmps5
    go_wp2_with (go_at_call 8; refine HF.out.mono ?_; rintro e w1 ⟨rfl, hb1⟩)
    go_ret
    exact ⟨rfl, hb1⟩
  · have hd : decide ((8 : Int) < (n : Int)) = false := decide_eq_false (by omega)
    have hd' : decide (8 < n) = false := decide_eq_false h8
    go_enter Tryd.func5, Tryd.ntmps5
    go_wp2_with (go_at_call 8; refine HF.out.mono ?_; rintro e w1 ⟨rfl, hb1⟩)
    go_loopw [4, 5] (fun o i wr => ∃ (k : Nat) (cur : List Int), k ≤ n ∧ i = .int .i64 k ∧ wr.ownsRow w.heap.size 3 1 o cur.length (cur.map (Value.int .i64)) ∧ Below w.heap.size w wr ∧ Hid (cur = varsB (bs.take k)) ∧ Hid (∀ j, j < k → (bs.getD j blk0).2.length ≤ 30)) (fun _ i _ => n - (intOf i).toNat)
    case atStart => exact ⟨0, [], Nat.zero_le _, rfl, ⟨rfl, .inl ⟨rfl, rfl⟩⟩, hb1, rfl, fun j hj => absurd hj (Nat.not_lt_zero _)⟩
    case round =>
      obtain ⟨k, cur, hk, rfl, hrow, hbr, HCUR, HLE⟩ := hrel
      clear hb1
      by_cases hlt : k < n
      · obtain ⟨b, off, ha, hbl, hc⟩ := HQ3.out.resolve_left (by omega)
        subst ha
        obtain ⟨_, v, f1, hvr⟩ := hc k hlt
        clear hc
        have f1' := (hbr.cell (p := ⟨b, off + k * 2 + 1, none⟩) hbl).trans f1
        have HV2K := Lib.hid (HV2.out k hlt)
        have HC2 : Hid (cur ++ (bs.getD k blk0).2 = varsB (bs.take (k + 1))) := by rw [HCUR.out]; exact HV2K.out.symm
        have HLB : Hid (cur.length ≤ 240) := by
          have := HBD.out k hk HLE.out
          rw [← HCUR.out] at this
          show _ ≤ _
          omega
        generalize hys : (bs.getD k blk0).2 = ys at *
        have HYS := Lib.hid hys; clear hys f1
        have hvk := hvr.keep hbr
        obtain ⟨av, cv, rfl, hrv⟩ := hvk
        by_cases h30 : 30 < ys.length
        · have he : decide ((30 : Int) < (ys.length : Int)) = true := decide_eq_true (by omega)
          have he' : decide (30 < ys.length) = true := decide_eq_true h30
          have HBR := Lib.hid hbr
          clear hrv hvr hrow hbr
          go_wp2_with fail
          go_ret
          exact ⟨rfl, HBR.out⟩
        · have he : decide ((30 : Int) < (ys.length : Int)) = false := decide_eq_false (by omega)
          have he' : decide (30 < ys.length) = false := decide_eq_false h30
          have HRC := Lib.hid (row_cells hrv)
          have HYL := Lib.hid (show (ys.map (Value.int .i64)).length = ys.length * 1 by simp)
          have HY1 := Lib.hid (ints_one ys)
          have HBR := Lib.hid hbr
          have HBS := Lib.hid hbr.size
          have HNW : Hid (∀ (W : World) o', W.ownsRow w.heap.size 3 1 o' (cur.length + ys.length) (cur.map (Value.int .i64) ++ ys.map (Value.int .i64)) → W.ownsRow w.heap.size 3 1 o' (cur ++ ys).length ((cur ++ ys).map (Value.int .i64))) := fun W o' h => by
            rw [List.length_append, List.map_append]; exact h
          have HLE2 : Hid (∀ j, j < k + 1 → (bs.getD j blk0).2.length ≤ 30) := fun j hj => by
            by_cases e : j = k
            · subst e; rw [HYS.out]; omega
            · exact HLE.out j (by omega)
          obtain ⟨ao, no, co, rfl⟩ := slice_of hrow
          clear hrv hvr hbr HLE
          generalize cur.length = nc at *
          generalize ys.length = ny at *
          go_wp2_with (at_builtin; refine wpList_appC 30 3 _ 1 8 Tryd.underlying30 infoInt rfl (by decide) (by decide) rfl _ _ rfl wr w.heap.size _ nc _ av ny cv _ hrow HBS.out (by have := HLB.out; omega) HYL.out HRC.out HY1.out rfl rfl ?_; intro o' w2 hown2 hap2)
          go_roundw
          case rel => exact ⟨k + 1, cur ++ ys, by omega, by go_num, HNW.out _ _ hown2, HBR.out.trans hap2.below, HC2.out, HLE2.out⟩
          case measure => simp [intOf]; omega
      · have hkn : k = n := by omega
        subst hkn
        have HCV := Lib.hid (HCUR.out.trans HE1.out)
        have hbd := HBD.out _ hk HLE.out
        rw [HE1.out] at hbd
        have HMC := Lib.hid (HMG.out _ hbr (by omega) (by omega))
        have HVB := Lib.hid (show (varsB bs).length ≤ 240 by omega)
        obtain ⟨m1, m2, m3⟩ := merge_whole bs
        have HTW := Lib.hid (merge_twice bs)
        generalize mergeL bs = ms at *
        have HM1 := Lib.hid m1
        have HM2 := Lib.hid m2
        have HSZ := Lib.hid hbr.size
        have hm8 : ms.length ≤ 8 := by rw [HN.out] at m3; omega
        clear m1 m2 m3 hbd HLE HCUR HBD HMG
        obtain ⟨ao, no, co, rfl⟩ := slice_of hrow
        have HRW := Lib.hid (fun W (hW : Below wr.heap.size wr W) => own_keep hrow hW)
        clear hrow hlt hk
        go_wp2_with (go_at_call 18; refine HMC.out.mono ?_; rintro e w2 ⟨⟨mv, vs, rfl, hmg⟩, hb2⟩; obtain ⟨am, cm, rfl⟩ := own_shape3 hmg.out)
        have HMK := Lib.hid hmg
        have HSM : Hid (ms.length ≤ 8) := hm8
        have HTB : Hid (∀ k, (varsB (ms.take k)).length ≤ 240) := fun k => by
          have h1 := vars_len ms k
          rw [HM2.out] at h1
          have := HVB.out
          show _ ≤ _
          omega
        have HTV := Lib.hid (fun k (hk : k < ms.length) => varsB_take ms k hk)
        have HTE : Hid (varsB (ms.take ms.length) = varsB bs) := by rw [List.take_length]; exact HM2.out
        have HSZ2 := Lib.hid hb2.size
        have HB2 := Lib.hid hb2
        have HBR := Lib.hid hbr
        have HALLR : Hid (∀ W, Below w2.heap.size w2 W → Row W _ cur) := fun W hW => own_row (HRW.out W (hb2.trans (hW.mono hb2.size)))
        have HROWS : Hid (∀ W, Below w2.heap.size w2 W → BRowsAt W am cm ms) := fun W hW => by
          obtain ⟨a', c', e, hr⟩ := mgG_rows (hmg.keep hW)
          injection e with e1 _ e3
          subst e1; subst e3
          exact hr
        clear hmg hb2 hbr
        go_loopw [7, 8] (fun o i wr3 => ∃ (k : Nat) (cur2 : List Int), k ≤ ms.length ∧ i = .int .i64 k ∧ wr3.ownsRow w2.heap.size 3 1 o cur2.length (cur2.map (Value.int .i64)) ∧ Below w2.heap.size w2 wr3 ∧ Hid (cur2 = varsB (ms.take k))) (fun _ i _ => ms.length - (intOf i).toNat)
        case atStart => exact ⟨0, [], Nat.zero_le _, rfl, ⟨rfl, .inl ⟨rfl, rfl⟩⟩, Below.refl _ _, rfl⟩
        case round =>
          obtain ⟨j, cur2, hj, rfl, hrow2, hbr2, HC2⟩ := hrel
          by_cases hjl : j < ms.length
          · obtain ⟨g, cg, e, _, _⟩ := (own_shape2 HMK.out.out).resolve_left (by omega)
            injection e with e1 _ e3
            subst e1; subst e3
            have hmk := HMK.out.keep hbr2
            obtain ⟨ex, av, nv, cv, u0, u1, hex, hev⟩ := game_cells hmk rfl j hjl
            have hrj := hmk.row j hjl
            rw [← hev] at hrj
            have hnv : nv = (ms.getD j blk0).2.length := by
              obtain ⟨a', c', e'⟩ := own_shape3 hrj
              injection e' with _ e2 _
            have hfull := HM1.out.full j hjl
            rw [← hnv] at hfull hrj
            have hfb : ((nv : Int) == 0) = false := beq_eq_false_iff_ne.2 (by omega)
            have HC3 : Hid (cur2 ++ (ms.getD j blk0).2 = varsB (ms.take (j + 1))) := by rw [HC2.out]; exact (HTV.out j hjl).symm
            have hcl : cur2.length ≤ 240 := by rw [HC2.out]; exact HTB.out j
            have HUN := Lib.hid (fun h0 => HM1.out.unlike j h0 hjl)
            rw [← hex] at HUN
            have hra := (own_row hrj)
            obtain ⟨_, _, e', hra⟩ := hra
            injection e' with e1 e2 e3
            subst e1; subst e3
            have HRC := Lib.hid (row_cells hra)
            rw [← hnv] at HRC
            have HYL := Lib.hid (show ((ms.getD j blk0).2.map (Value.int .i64)).length = nv * 1 by rw [hnv]; simp)
            have HY1 := Lib.hid (ints_one (ms.getD j blk0).2)
            have HNW : Hid (∀ (W : World) o', W.ownsRow w2.heap.size 3 1 o' (cur2.length + nv) (cur2.map (Value.int .i64) ++ (ms.getD j blk0).2.map (Value.int .i64)) → W.ownsRow w2.heap.size 3 1 o' (cur2 ++ (ms.getD j blk0).2).length ((cur2 ++ (ms.getD j blk0).2).map (Value.int .i64))) := fun W o' h => by
              rw [List.length_append, List.map_append, ← hnv]; exact h
            have hnb : nv ≤ 240 := by
              have h1 := congrArg List.length HC3.out
              have h2 := HTB.out (j + 1)
              rw [List.length_append, ← hnv] at h1
              omega
            have HBS := Lib.hid hbr2.size
            have HBR2 := Lib.hid hbr2
            obtain ⟨ao2, no2, co2, rfl⟩ := slice_of hrow2
            have HHI : Hid (∀ j', j = j' + 1 → ∃ ex', wr.cell? ⟨g, j' * 2, none⟩ = some (.bool ex') ∧ (ex == ex') = false) := fun j' ej => by
              obtain ⟨ex', _, _, _, v0, _, hex', _⟩ := game_cells hmk rfl j' (by omega)
              refine ⟨ex', v0, beq_eq_false_iff_ne.2 fun e => HUN.out (by omega) ?_⟩
              rw [e, hex', show j - 1 = j' by omega]
            clear hmk hrj hra hex hev hnv hbr2 e2
            generalize (ms.getD j blk0).2 = ys at *
            generalize ys.map (Value.int .i64) = fy at *
            cases j with
            | zero =>
              go_wp2_with fail
              go_quiet (fail)
              go_wp2_with (at_builtin; refine wpList_appC 30 3 _ 1 8 Tryd.underlying30 infoInt rfl (by decide) (by decide) rfl _ _ rfl _ w2.heap.size _ cur2.length _ av nv cv fy (by exact own_keep hrow2 (by first | exact Below.refl _ _ | exact (Below.refl _ _).drew | exact below_drewN (Below.refl _ _) _)) (by have := HBS.out; simpa using this) (by omega) HYL.out (by simpa using HRC.out) HY1.out rfl rfl ?_; intro o' w3 hown3 hap3)
              all_goals exact ⟨⟨1, cur2 ++ ys, by omega, by go_num, HNW.out _ _ hown3, by first | exact HBR2.out.trans hap3.below | exact HBR2.out.drew.trans hap3.below | exact (below_drewN HBR2.out _).trans hap3.below, HC3.out⟩, by simp [intOf]; omega⟩
            | succ j' =>
              obtain ⟨ex', u2, hne⟩ := HHI.out j' rfl
              have hp0 : decide ((0 : Int) < (j' : Int) + 1) = true := decide_eq_true (by omega)
              have hp1 : decide ((0 : Int) < ((j' + 1 : Nat) : Int)) = true := decide_eq_true (by omega)
              have hp2 : (j' : Int) < (ms.length : Int) := by omega
              have hp3 : (j' : Int) + 1 < (ms.length : Int) := by omega
              have hp4 : (0 : Int) ≤ (j' : Int) + 1 := by omega
              go_wp2_with fail
              go_quiet (fail)
              go_wp2_with (at_builtin; refine wpList_appC 30 3 _ 1 8 Tryd.underlying30 infoInt rfl (by decide) (by decide) rfl _ _ rfl _ w2.heap.size _ cur2.length _ av nv cv fy (by exact own_keep hrow2 (by first | exact Below.refl _ _ | exact (Below.refl _ _).drew | exact below_drewN (Below.refl _ _) _)) (by have := HBS.out; simpa using this) (by omega) HYL.out (by simpa using HRC.out) HY1.out rfl rfl ?_; intro o' w3 hown3 hap3)
              all_goals exact ⟨⟨j' + 1 + 1, cur2 ++ ys, by omega, by go_num, HNW.out _ _ hown3, by first | exact HBR2.out.trans hap3.below | exact HBR2.out.drew.trans hap3.below | exact (below_drewN HBR2.out _).trans hap3.below, HC3.out⟩, by simp [intOf]; omega⟩
          · have hjm : j = ms.length := by omega
            subst hjm
            have HSI := Lib.hid (fun W (hW : Below wr.heap.size wr W) => sameInts_yes _ _ cur2 cur W (own_row (own_keep hrow2 hW)) (HALLR.out W (hbr2.trans (hW.mono hbr2.size))) (by rw [HC2.out, HCV.out]; exact HTE.out))
            have HM3 := Lib.hid (fun W (hW : Below w2.heap.size w2 W) => merge_any am cm ms W (HROWS.out W hW) (by have := HSM.out; omega) (by have := HVB.out; rw [HM2.out]; omega))
            rw [HTW.out] at HM3
            have HSB := Lib.hid (fun W a' c' (hW : Below w2.heap.size w2 W) (h : BRowsAt W a' c' ms) => sameBlocks_yes a' am c' cm ms W h (HROWS.out W hW))
            have HBR2 := Lib.hid hbr2
            have HBR2S := Lib.hid hbr2.size
            obtain ⟨ao2, no2, co2, rfl⟩ := slice_of hrow2
            clear hrow2 hbr2
            go_wp2_with (first
              | (go_at_call 14; refine (HSI.out _ (Below.refl _ _)).mono ?_; rintro e w4 ⟨rfl, hb4⟩; have hb24 := HBR2.out.trans (hb4.mono HBR2S.out))
              | (go_at_call 18; refine (HM3.out _ hb24).mono ?_; rintro e w5 ⟨⟨v5, vs5, rfl, hmg5⟩, hb5⟩; obtain ⟨a5, c5, rfl, hr5⟩ := mgG_rows hmg5; have hb25 := hb24.trans (hb5.mono hb24.size))
              | (go_at_call 17; refine (HSB.out _ _ _ hb25 hr5).mono ?_; rintro e w6 ⟨rfl, hb6⟩))
            go_ret
            exact ⟨rfl, (HBR.out.trans (HB2.out.mono HSZ.out)).trans ((hb25.trans (hb6.mono hb25.size)).mono (Nat.le_trans HSZ.out HSZ2.out))⟩
end Go.Proofs.YtmohdhifilclbaaDoor
