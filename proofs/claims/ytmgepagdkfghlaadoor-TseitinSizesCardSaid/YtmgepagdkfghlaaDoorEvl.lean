/- Contracts of the document's worth, Nodes, Eval: 'worthV', 'nodesV', 'evalV'. Conditions: the circuit is right ('checkC' is 0) and reads as 'PRow', 'Row' say; the inputs read as Booleans. -/
import Derived.Test.YtmgepagdkfghlaaDoorGrK
import Derived.Test.YtmgepagdkfghlaaDoorGen
import Derived.Test.YtmgepagdkfghlaaDoorRen
import Derived.Test.YtmgepagdkfghlaaDoorGwP
import Derived.Test.YtmgepagdkfghlaaDoorGbB
namespace Go.Proofs.YtmgepagdkfghlaaDoor
open Go.RowKit

theorem infoBool9 : (Tryd.prog.info? 4).map (fun i => (i.zero, i.size, i.bytes)) = some (some (.bool false), 1, 1) := by kernel_rfl
def BRow (w : World) (v : Value) (xs : List Bool) : Prop := RowG Value.bool false w v xs
theorem BRow.keep {w w' : World} {v : Value} {xs : List Bool} (h : BRow w v xs) (hb : Below w.heap.size w w') : BRow w' v xs := RowG.keep h hb
theorem odd_val (x : Bool) (l : Int) (h0 : 0 ≤ l) (h1 : l < 4611686018427387904) : (x != (bits .and .i64 l 1 == 1)) = (x != oddB l) := by
  rw [and_oneI l h0 h1]
  unfold oddB
  congr 1

set_option maxRecDepth 8000 in
set_option maxHeartbeats 1000000 in
theorem worth_any (v : Value) (xs : List Bool) (l : Int) (w : World) (hv : BRow w v xs) (h0 : 0 ≤ l) (h1 : l < 4611686018427387904) (h2 : l / 2 < (xs.length : Int)) :
    Calls Tryd.prog 38 #[v, .int .i64 l] w fun e w' => e = .returned (.bool (worthV xs l)) ∧ w = w' := by
  obtain ⟨a, c, rfl, hxc, hcm, hx⟩ := hv
  unfold maxLen at hcm
  obtain ⟨k, hk⟩ : ∃ k : Nat, l / 2 = (k : Int) := ⟨(l / 2).toNat, by omega⟩
  have hkl : k < xs.length := by omega
  have HV := Lib.hid (odd_val (xs.getD k false) l h0 h1)
  have HW : Hid (worthV xs l = (xs.getD k false != oddB l)) := by unfold Hid worthV; rw [hk, show ((k : Int)).toNat = k by omega]
  rw [← HW.out] at HV
  obtain ⟨b, off, ha, hbl, hc⟩ := hx.resolve_left (by omega)
  subst ha
  have y0 := hc k hkl
  clear hc hx HW
  generalize xs.getD k false = x at *
  generalize worthV xs l = r at *
  generalize xs.length = n at *
  go_enter Tryd.func38, Tryd.ntmps38
  go_wp2_with fail
  go_ret
  exact ⟨ret_bool HV.out, rfl⟩

theorem inV_snoc (k : Nat) (ins : List Bool) : inV (k + 1) ins = inV k ins ++ [ins.getD k false] := by
  unfold inV
  rw [List.range_succ, List.map_append]
  rfl
theorem nodesV_take (n : Nat) (ps : List (Int × Int)) (ins : List Bool) (k : Nat) (h : k < ps.length) : nodesV n (ps.take (k + 1)) ins = nodesV n (ps.take k) ins ++ [worthV (nodesV n (ps.take k) ins) (ps.getD k (0, 0)).1 && worthV (nodesV n (ps.take k) ins) (ps.getD k (0, 0)).2] := by
  rw [← nodesV_snoc, take_snocP ps k h]
theorem nodesV_nil (n : Nat) (ins : List Bool) : nodesV n [] ins = inV n ins := rfl

set_option maxRecDepth 8000 in
set_option maxHeartbeats 4000000 in
theorem nodes_any (N : Nat) (u v q : Value) (ps : List (Int × Int)) (os : List Int) (ins : List Bool) (w : World) (hu : PRow w u ps) (hv : Row w v os) (hq : BRow w q ins) (_hnl : ins.length ≤ 1000) (hc : checkC (N : Int) ps os = 0) :
    Calls Tryd.prog 19 #[circV (N : Int) u v, q] w fun e w' => ∃ z, e = .returned z ∧ w'.ownsRow w.heap.size 4 1 z (N + 1 + ps.length) ((nodesV N ps ins).map Value.bool) ∧ Below w.heap.size w w' := by
  obtain ⟨hnm, hokp, hoko⟩ := check_zero8 hc
  obtain ⟨a1, c1, rfl, hu1, hu2, hu3⟩ := hu
  obtain ⟨a2, c2, rfl, hv1, hv2, hv3⟩ := hv
  obtain ⟨a3, c3, rfl, hq1, hq2, hq3⟩ := hq
  unfold maxLen at hu2 hv2 hq2
  have HU := Lib.hid hu3; clear hu3 hv3
  have HQ := Lib.hid hq3; clear hq3
  have HBX := Lib.hid (fun W hW => cirC_box w W (N : Int) (.slice a1 ps.length c1) (.slice a2 os.length c2) hW)
  unfold CirC at HBX
  have H0 : Hid (Below (w.heap.size + 1) (w.alloc (.cells #[.int .i64 (N : Int), .slice a1 ps.length c1, .slice a2 os.length c2] 25)) (w.alloc (.cells #[.int .i64 (N : Int), .slice a1 ps.length c1, .slice a2 os.length c2] 25))) := Below.refl _ _
  have HOKP := Lib.hid hokp
  have HTK := Lib.hid (fun k (hk : k < ps.length) => nodesV_take N ps ins k hk)
  have HLN : Hid (∀ k, k ≤ ps.length → (nodesV N (ps.take k) ins).length = N + 1 + k) := fun k hk => by rw [nodesV_len, List.length_take]; omega
  have HTE : Hid (ps.take ps.length = ps) := List.take_length
  have HSN := Lib.hid (fun k => inV_snoc k ins)
  have HIL := Lib.hid (fun k => inV_len k ins)
  clear hc hokp hoko
  unfold circV at *
  generalize ps.length = m at *
  generalize os.length = lo at *
  generalize hil : ins.length = li at *
  have HILN := Lib.hid hil
  clear hil
  obtain ⟨⟨z0, z1, z2⟩, hbw⟩ := HBX.out _ H0.out
  clear z0 z1 z2 hbw
  go_enter Tryd.func19, Tryd.ntmps19
  go_wp2_with fail
  have HS1 : Hid (Below (w.heap.size + 1) (w.alloc (.cells #[.int .i64 (N : Int), .slice a1 m c1, .slice a2 lo c2] 25)) ((w.alloc (.cells #[.int .i64 (N : Int), .slice a1 m c1, .slice a2 lo c2] 25)).alloc (.cells #[.bool false] 4))) := (Below.refl _ _).alloc (by simp) _
  go_loopw [6, 5] (fun i u wr => ∃ k : Nat, k ≤ N ∧ i = .int .i64 k ∧ wr.ownsRow (w.heap.size + 1) 4 1 u (k + 1) ((inV k ins).map Value.bool) ∧ Below (w.heap.size + 1) (w.alloc (.cells #[.int .i64 (N : Int), .slice a1 m c1, .slice a2 lo c2] 25)) wr ∧ w.heap.size + 1 ≤ wr.heap.size) (fun i _ _ => N - (intOf i).toNat)
  case atStart =>
    refine ⟨0, Nat.zero_le _, rfl, ?_, HS1.out, by simp⟩
    exact ⟨by simp [inV], .inr ⟨w.heap.size + 1, 1, #[.bool false], rfl, Nat.le_refl _, (by simpa using heap_alloc_new (w.alloc (.cells #[.int .i64 (N : Int), .slice a1 m c1, .slice a2 lo c2] 25)) (.cells #[.bool false] 4)), by omega, by unfold maxLen; omega, by simp, by simp [inV]⟩⟩
  case round =>
    obtain ⟨k, hk, rfl, hown, hbr, hsz⟩ := hrel
    obtain ⟨ab, cb, rfl, _, hcb⟩ := own_shape hown
    unfold maxLen at hcb
    obtain ⟨⟨z0, z1, z2⟩, hbw⟩ := HBX.out _ hbr
    clear HS1
    by_cases hlt : k < N
    · have HBR := Lib.hid hbr
      have HSK := Lib.hid (HSN.out k)
      by_cases hin : k < li
      · obtain ⟨q, off, ha, hql, hcl⟩ := HQ.out.resolve_left (by omega)
        subst ha
        have y0 := (hbw.cell (p := ⟨q, off + k, none⟩) hql).trans (hcl k hin)
        have hd : decide (k < li) = true := decide_eq_true hin
        have hd2 : decide ((k : Int) < (li : Int)) = true := decide_eq_true (by omega)
        clear hcl hbr hbw
        generalize ins.getD k false = y at *
        go_wp2_with (at_builtin; refine wpList_app1G Value.bool 40 4 (.bool false) 1 Tryd.underlying40 infoBool9 rfl (by decide) rfl _ _ rfl wr (w.heap.size + 1) _ (k + 1) _ y rfl hown hsz (by omega) rfl rfl ?_; intro u' w5 hown5 hap5)
        go_roundw
        case rel => exact ⟨k + 1, by omega, by go_num, by rw [HSK.out]; exact hown5, HBR.out.trans hap5.below, Nat.le_trans hsz hap5.below.size⟩
        case measure => simp [intOf]; omega
      · have hg : ins.getD k false = false := by
          have := HILN.out
          simp [List.getD, show ins.length ≤ k by omega]
        rw [hg] at HSK
        have hd : decide (k < li) = false := decide_eq_false hin
        have hd2 : decide ((k : Int) < (li : Int)) = false := decide_eq_false (by omega)
        clear hg hbr hbw
        go_wp2_with (at_builtin; refine wpList_app1G Value.bool 40 4 (.bool false) 1 Tryd.underlying40 infoBool9 rfl (by decide) rfl _ _ rfl wr (w.heap.size + 1) _ (k + 1) _ false rfl hown hsz (by omega) rfl rfl ?_; intro u' w5 hown5 hap5)
        go_roundw
        case rel => exact ⟨k + 1, by omega, by go_num, by rw [HSK.out]; exact hown5, HBR.out.trans hap5.below, Nat.le_trans hsz hap5.below.size⟩
        case measure => simp [intOf]; omega
    · have hkn : N = k := by omega
      subst hkn
      have HOWN := Lib.hid hown
      have HBR := Lib.hid hbr
      have HSZ := Lib.hid hsz
      clear hown hbr hbw hsz hk hlt
      go_wp2_with fail
      clear z0 z1 z2
      go_loopw [7, 5] (fun i u wr2 => ∃ (k : Nat) (bs : List Bool), k ≤ m ∧ i = .int .i64 k ∧ wr2.ownsRow (w.heap.size + 1) 4 1 u bs.length (bs.map Value.bool) ∧ Below (w.heap.size + 1) (w.alloc (.cells #[.int .i64 (N : Int), .slice a1 m c1, .slice a2 lo c2] 25)) wr2 ∧ w.heap.size + 1 ≤ wr2.heap.size ∧ Hid (bs = nodesV N (ps.take k) ins)) (fun i _ _ => m - (intOf i).toNat)
      case atStart => exact ⟨0, inV N ins, Nat.zero_le _, rfl, by rw [HIL.out]; exact HOWN.out, HBR.out, HSZ.out, by rw [List.take_zero]; rfl⟩
      case round =>
        obtain ⟨k, bs, hk, rfl, hown, hbr, hsz, HS⟩ := hrel
        obtain ⟨ab, cb, rfl, _, hcb⟩ := own_shape hown
        unfold maxLen at hcb
        obtain ⟨⟨z0, z1, z2⟩, hbw⟩ := HBX.out _ hbr
        clear HOWN HBR HSZ
        by_cases hlt : k < m
        · obtain ⟨q, off, ha, hql, hcl⟩ := HU.out.resolve_left (by omega)
          subst ha
          obtain ⟨x0, x1⟩ := hcl k hlt
          have y0 := (hbw.cell (p := ⟨q, off + k * 2, none⟩) hql).trans x0
          have y1 := (hbw.cell (p := ⟨q, off + k * 2 + 1, none⟩) hql).trans x1
          obtain ⟨o1, o2, o3⟩ := (okP_iff _ _ _).1 (HOKP.out k hlt)
          have HTT := Lib.hid (HTK.out k hlt)
          rw [← HS.out] at HTT
          have hbl : bs.length = N + 1 + k := by rw [HS.out]; exact HLN.out k (by omega)
          have hbl2 : bs.length ≤ 10000 := by omega
          clear hcl x0 x1 hbw
          generalize ps.getD k (0, 0) = xy at *
          obtain ⟨x, y⟩ := xy
          simp only at o1 o2 o3 y0 y1 HTT
          have HBW : Hid (BRow wr (.slice ab bs.length cb) bs) := own_rowG hown
          have HW1 := Lib.hid (worth_any (.slice ab bs.length cb) bs x wr HBW.out (by omega) (by omega) (by omega))
          have HW2 := Lib.hid (worth_any (.slice ab bs.length cb) bs y wr HBW.out (by omega) (by omega) (by omega))
          have HBR := Lib.hid hbr
          clear hbr o1 o2 o3 hbl
          cases hb1 : worthV bs x with
          | true =>
            rw [hb1] at HW1 HTT
            rw [Bool.true_and] at HTT
            generalize worthV bs y = b2 at *
            clear hb1
            go_wp2_with (first
              | (go_at_call_of 38 (Value.int IntKind.i64 x); refine HW1.out.mono ?_; rintro e w' ⟨rfl, rfl⟩)
              | (go_at_call 38; refine HW2.out.mono ?_; rintro e w' ⟨rfl, rfl⟩)
              | (at_builtin; refine wpList_app1G Value.bool 40 4 (.bool false) 1 Tryd.underlying40 infoBool9 rfl (by decide) rfl _ _ rfl wr (w.heap.size + 1) _ bs.length _ b2 rfl hown hsz (by omega) rfl rfl ?_; intro u' w5 hown5 hap5))
            go_roundw
            case rel => exact ⟨k + 1, bs ++ [b2], by omega, by go_num, by rw [List.length_append, List.length_singleton]; exact hown5, HBR.out.trans hap5.below, Nat.le_trans hsz hap5.below.size, HTT.out.symm⟩
            case measure => simp [intOf]; omega
          | false =>
            rw [hb1] at HW1 HTT
            rw [Bool.false_and] at HTT
            clear hb1
            go_wp2_with (first
              | (go_at_call_of 38 (Value.int IntKind.i64 x); refine HW1.out.mono ?_; rintro e w' ⟨rfl, rfl⟩)
              | (at_builtin; refine wpList_app1G Value.bool 40 4 (.bool false) 1 Tryd.underlying40 infoBool9 rfl (by decide) rfl _ _ rfl wr (w.heap.size + 1) _ bs.length _ false rfl hown hsz (by omega) rfl rfl ?_; intro u' w5 hown5 hap5))
            go_roundw
            case rel => exact ⟨k + 1, bs ++ [false], by omega, by go_num, by rw [List.length_append, List.length_singleton]; exact hown5, HBR.out.trans hap5.below, Nat.le_trans hsz hap5.below.size, HTT.out.symm⟩
            case measure => simp [intOf]; omega
        · have hkm : m = k := by omega
          have HR : Hid (bs = nodesV N ps ins) := by
            have := HS.out
            rw [← hkm, HTE.out] at this
            exact this
          have HLL : Hid (bs.length = N + 1 + m) := by
            unfold Hid
            rw [HS.out, hkm]
            exact HLN.out k hk
          have HO : Hid (wr.ownsRow w.heap.size 4 1 (.slice ab bs.length cb) (N + 1 + m) ((nodesV N ps ins).map Value.bool)) := by
            unfold Hid
            rw [← HR.out, ← HLL.out]
            exact own_base hown (by omega)
          have HBW := Lib.hid hbw
          clear hown hbr hbw hsz
          go_wp2_with fail
          go_ret
          exact ⟨_, rfl, HO.out, HBW.out⟩

set_option maxRecDepth 8000 in
set_option maxHeartbeats 4000000 in
theorem eval_any (N : Nat) (u v q : Value) (ps : List (Int × Int)) (os : List Int) (ins : List Bool) (w : World) (hu : PRow w u ps) (hv : Row w v os) (hq : BRow w q ins) (hnl : ins.length ≤ 1000) (hol : os.length ≤ 1000000) (hc : checkC (N : Int) ps os = 0) :
    Calls Tryd.prog 23 #[circV (N : Int) u v, q] w fun e w' => ∃ z, e = .returned z ∧ w'.ownsRow w.heap.size 4 1 z os.length ((evalV N ps os ins).map Value.bool) ∧ Below w.heap.size w w' := by
  obtain ⟨hnm, hokp, hoko⟩ := check_zero8 hc
  have HND := Lib.hid (fun W (hW : Below w.heap.size w W) => nodes_any N u v q ps os ins W (hu.keep hW) (hv.keep hW) (hq.keep hW) hnl hc)
  obtain ⟨a1, c1, rfl, hu1, hu2, hu3⟩ := hu
  obtain ⟨a2, c2, rfl, hv1, hv2, hv3⟩ := hv
  obtain ⟨a3, c3, rfl, hq1, hq2, hq3⟩ := hq
  unfold maxLen at hu2 hv2 hq2
  have HV := Lib.hid hv3; clear hu3 hv3 hq3
  have HBX := Lib.hid (fun W hW => cirC_box w W (N : Int) (.slice a1 ps.length c1) (.slice a2 os.length c2) hW)
  unfold CirC at HBX
  have H0 : Hid (Below (w.heap.size + 1) (w.alloc (.cells #[.int .i64 (N : Int), .slice a1 ps.length c1, .slice a2 os.length c2] 25)) (w.alloc (.cells #[.int .i64 (N : Int), .slice a1 ps.length c1, .slice a2 os.length c2] 25))) := Below.refl _ _
  have HOKO := Lib.hid hoko
  have HNL : Hid ((nodesV N ps ins).length = N + 1 + ps.length) := nodesV_len N ps ins
  have HEV : Hid (∀ k, k < os.length → (os.take (k + 1)).map (worthV (nodesV N ps ins)) = (os.take k).map (worthV (nodesV N ps ins)) ++ [worthV (nodesV N ps ins) (os.getD k 0)]) := fun k hk => by rw [take_snoc os k hk, List.map_append]; rfl
  have HED : Hid (evalV N ps os ins = os.map (worthV (nodesV N ps ins))) := rfl
  have HTE : Hid (os.take os.length = os) := List.take_length
  clear hc hokp hoko
  unfold circV at *
  generalize nodesV N ps ins = vs at *
  generalize evalV N ps os ins = res at *
  generalize ps.length = m at *
  generalize os.length = lo at *
  generalize ins.length = li at *
  obtain ⟨⟨z0, z1, z2⟩, hbw⟩ := HBX.out _ H0.out
  have HC1 := Lib.hid (HND.out _ hbw)
  clear z0 z1 z2 hbw HND
  go_enter Tryd.func23, Tryd.ntmps23
  go_wp2_with fail
  refine HC1.out.mono ?_
  rintro e w1 ⟨zn, rfl, hownN, hb1⟩
  obtain ⟨an, cn, rfl, _, _⟩ := own_shape hownN
  have HB1 := Lib.hid (H0.out.trans (hb1.mono (by simp)))
  have hsz1 : w.heap.size + 1 ≤ w1.heap.size := by have := hb1.size; simp at this; omega
  have HBR : Hid (BRow w1 (.slice an vs.length cn) vs) := by unfold Hid; rw [HNL.out]; exact own_rowG hownN
  rw [HNL.out] at HBR
  have HWO : Hid (∀ W o, Below w1.heap.size w1 W → 0 ≤ o → o < 4611686018427387904 → o / 2 < ((N + 1 + m : Nat) : Int) → Calls Tryd.prog 38 #[.slice an (N + 1 + m) cn, .int .i64 o] W fun e w' => e = .returned (.bool (worthV vs o)) ∧ W = w') := fun W o hW h0 h1 h2 => worth_any _ vs o W (HBR.out.keep hW) h0 h1 (by rw [HNL.out]; exact h2)
  clear hownN hb1
  go_wp2_with fail
  go_loopw [7, 6] (fun i u wr => ∃ k : Nat, k ≤ lo ∧ i = .int .i64 k ∧ wr.ownsRow w1.heap.size 4 1 u k (((os.take k).map (worthV vs)).map Value.bool) ∧ Below w1.heap.size w1 wr) (fun i _ _ => lo - (intOf i).toNat)
  case atStart => exact ⟨0, Nat.zero_le _, rfl, by rw [List.take_zero]; exact World.ownsRow_nil _ _ _ _, Below.refl _ _⟩
  case round =>
    obtain ⟨k, hk, rfl, hown, hbr⟩ := hrel
    obtain ⟨ab, cb, rfl, _, hcb⟩ := own_shape hown
    unfold maxLen at hcb
    obtain ⟨⟨z0, z1, z2⟩, hbw⟩ := HBX.out _ (HB1.out.trans (hbr.mono hsz1))
    by_cases hlt : k < lo
    · obtain ⟨q, off, ha, hql, hcl⟩ := HV.out.resolve_left (by omega)
      subst ha
      have y0 := (hbw.cell (p := ⟨q, off + k, none⟩) hql).trans (hcl k hlt)
      obtain ⟨o1, o2⟩ := (okO_iff _ _).1 (HOKO.out k hlt)
      have HTT := Lib.hid (HEV.out k hlt)
      clear hcl hbw
      generalize os.getD k 0 = o at *
      have HW1 := Lib.hid (HWO.out wr o hbr o1 (by omega) (by omega))
      have hsz := hbr.size
      have HBQ := Lib.hid hbr
      clear hbr o1 o2
      generalize worthV vs o = y at *
      go_wp2_with fail
      refine HW1.out.mono ?_
      rintro e w' ⟨rfl, rfl⟩
      go_wp2_with (at_builtin; refine wpList_app1G Value.bool 40 4 (.bool false) 1 Tryd.underlying40 infoBool9 rfl (by decide) rfl _ _ rfl wr w1.heap.size _ k _ y rfl hown hsz (by omega) rfl rfl ?_; intro u' w5 hown5 hap5)
      go_roundw
      case rel => exact ⟨k + 1, by omega, by go_num, by rw [HTT.out]; exact hown5, HBQ.out.trans hap5.below⟩
      case measure => simp [intOf]; omega
    · have hkm : lo = k := by omega
      subst hkm
      rw [HTE.out, ← HED.out] at hown
      have HO := Lib.hid (own_base hown (show w.heap.size ≤ w1.heap.size by omega))
      have HBW := Lib.hid hbw
      clear hown hbr hbw
      go_wp2_with fail
      go_ret
      exact ⟨_, rfl, HO.out, HBW.out⟩
end Go.Proofs.YtmgepagdkfghlaaDoor
