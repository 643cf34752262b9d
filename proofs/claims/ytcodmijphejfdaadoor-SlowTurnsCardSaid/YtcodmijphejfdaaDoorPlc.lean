/- The contract of prefix.places: a map of each variable's first place. Conditions: the game reads as two lists of 64-bit ints, not too long. -/
import Derived.Test.YtcodmijphejfdaaDoorFree
import Derived.Test.YtcodmijphejfdaaDoorConcat
import Derived.Test.YtcodmijphejfdaaDoorNormG
namespace Go.Proofs.YtcodmijphejfdaaDoor
open Go.RowKit Go.Maps

/-- The first place of v, from 1 on; 0: it has none. -/
def posOf (xs : List Int) (v : Int) : Nat := if v ∈ xs then xs.idxOf v + 1 else 0
theorem posOf_snoc (xs : List Int) (y v : Int) : posOf (xs ++ [y]) v = if v ∈ xs then posOf xs v else if v = y then xs.length + 1 else 0 := by
  unfold posOf
  by_cases h : v ∈ xs
  · rw [if_pos h, if_pos (by simp [h]), if_pos h, List.idxOf_append, if_pos h]
  · rw [if_neg h]
    by_cases e : v = y
    · subst e
      rw [if_pos (by simp), if_pos rfl, List.idxOf_append, if_neg h]
      simp
    · rw [if_neg e, if_neg (by simp [h, e])]
/-- The map reads as the places of these variables. -/
def MapI (D : DataW Unit) (xs : List Int) : Prop := IsMap D ∧ ∀ v : Int, Maps.has D (.int .i64 v) = decide (v ∈ xs) ∧ (v ∈ xs → D.atKey (.int .i64 v) (.lit (.int .i64 0)) = .lit (.int .i64 (posOf xs v)))
theorem MapI.start : MapI (.map []) [] := ⟨isMap_empty, fun v => ⟨by simp [Maps.has], fun h => by simp at h⟩⟩
theorem MapI.old {D : DataW Unit} {xs : List Int} {y : Int} (h : MapI D xs) (hy : y ∈ xs) : MapI D (xs ++ [y]) := by
  refine ⟨h.1, fun v => ?_⟩
  obtain ⟨h1, h2⟩ := h.2 v
  have hm : v ∈ xs ++ [y] ↔ v ∈ xs := by
    rw [List.mem_append, List.mem_singleton]
    exact ⟨fun a => a.elim id fun e => by rw [e]; exact hy, .inl⟩
  refine ⟨by rw [h1]; exact decide_eq_decide.2 hm.symm, fun hv => ?_⟩
  rw [posOf_snoc, if_pos (hm.1 hv)]
  exact h2 (hm.1 hv)
theorem MapI.put {D : DataW Unit} {xs : List Int} {y : Int} (h : MapI D xs) (hy : y ∉ xs) : MapI (D.put (.int .i64 y) (.lit (.int .i64 ((xs.length + 1 : Nat) : Int)))) (xs ++ [y]) := by
  refine ⟨h.1.put _ _, fun v => ?_⟩
  obtain ⟨h1, h2⟩ := h.2 v
  by_cases e : v = y
  · subst e
    rw [has_put_same h.1 (by trivial), atKey_put_same h.1 (by trivial), posOf_snoc, if_neg hy, if_pos rfl]
    exact ⟨by simp, fun _ => rfl⟩
  · have hk : (Lit.int .i64 v) ≠ .int .i64 y := fun h => e (by injection h)
    rw [has_put_other hk, atKey_put_other hk, h1, posOf_snoc]
    refine ⟨decide_eq_decide.2 (by simp [e]), fun hv => ?_⟩
    have hv' : v ∈ xs := by simpa [e] using hv
    rw [if_pos hv']
    exact h2 hv'
/-- The same, without 0. -/
def MapZ (D : DataW Unit) (xs : List Int) : Prop := ∀ v : Int, Maps.has D (.int .i64 v) = decide (v ∈ xs ∧ v ≠ 0) ∧ (v ∈ xs → v ≠ 0 → D.atKey (.int .i64 v) (.lit (.int .i64 0)) = .lit (.int .i64 (posOf xs v)))
theorem MapI.del {D : DataW Unit} {xs : List Int} (h : MapI D xs) : MapZ (D.del (.int .i64 0)) xs := fun v => by
  obtain ⟨h1, h2⟩ := h.2 v
  by_cases e : v = 0
  · subst e
    rw [has_del_same]
    exact ⟨by simp, fun _ hv => absurd rfl hv⟩
  · have hk : (Lit.int .i64 v) ≠ .int .i64 0 := fun h => e (by injection h)
    rw [has_del_other hk, atKey_del_other hk, h1]
    exact ⟨decide_eq_decide.2 (by simp [e]), fun hv _ => h2 hv⟩
theorem zeroI (w : World) : (zeroValue 3).run Tryd.prog w = .ok (.int .i64 0) w := by kernel_rfl

set_option maxHeartbeats 4000000 in
set_option maxRecDepth 100000 in
theorem places_any (ex : Bool) (vo vi vc : Value) (ol il : List Int) (w : World) (ho : Row w vo ol) (hi : Row w vi il) (hc : ∃ a m c, vc = .slice a m c) (hn : ol.length + il.length ≤ 1000000) (hb : ∀ v ∈ ol ++ il, -9223372036854775808 ≤ v ∧ v ≤ 9223372036854775807) :
    Calls Tryd.prog 55 #[.agg #[.bool ex, vo, vi, vc]] w fun e w' => (∃ b N D, e = .returned (.map (some b)) ∧ w'.ownsMap Tryd.prog 3 (plainElem Tryd.prog 3) b N D ∧ MapZ D (ol ++ il)) ∧ Below w.heap.size w w' := by
  obtain ⟨ac, mc, cc, rfl⟩ := hc
  obtain ⟨ao, co, rfl, hor⟩ := ho
  obtain ⟨ai, ci, rfl, hir⟩ := hi
  have HCC : Hid (∀ W b, Below w.heap.size w W → Calls Tryd.prog 78 #[.slice (some ⟨W.heap.size, 0, none⟩) 2 2] (W.alloc (.cells #[.slice ao ol.length co, .slice ai il.length ci] b)) fun e w' => (∃ v, e = .returned v ∧ Row w' v (ol ++ il)) ∧ Below W.heap.size W w') := fun W b hW => by
    obtain ⟨c0, c1⟩ := cells2 W _ (.slice ao ol.length co) (.slice ai il.length ci) b (Below.refl _ _)
    have hx : Below W.heap.size W (W.alloc (.cells #[.slice ao ol.length co, .slice ai il.length ci] b)) := (Below.refl _ _).alloc (Nat.le_refl _) _
    refine (concatI_any W.heap.size ao ai co ci ol il _ c0 c1 ((hor.keep hW).keep hx) ((hir.keep hW).keep hx) (by omega)).mono ?_
    rintro e w' ⟨h1, h2⟩
    exact ⟨h1, hx.trans (h2.mono hx.size)⟩
  have HB1 : Hid (∀ W, Below (w.heap.size + 1) (w.alloc (.cells #[.bool ex, .slice ao ol.length co, .slice ai il.length ci, .slice ac mc cc] 32)) W → Below w.heap.size w W) := fun W h => ((Below.refl _ w).alloc (Nat.le_refl _) _).trans (h.mono (by omega))
  have HLN := Lib.hid (show (ol ++ il).length ≤ 1000000 by rw [List.length_append]; exact hn)
  have HBD : Hid (∀ k, k < (ol ++ il).length → -9223372036854775808 ≤ (ol ++ il).getD k 0 ∧ (ol ++ il).getD k 0 ≤ 9223372036854775807) := fun k hk => hb _ (getD_memI _ k hk)
  clear hor hir hn hb
  generalize ol ++ il = xs at *
  generalize ol.length = no at *
  generalize il.length = ni at *
  have hmm := @run_makeMap Tryd.prog
  have HX0 : Hid (Below (w.heap.size + 1) (w.alloc (.cells #[.bool ex, .slice ao no co, .slice ai ni ci, .slice ac mc cc] 32)) ((w.alloc (.cells #[.bool ex, .slice ao no co, .slice ai ni ci, .slice ac mc cc] 32)).alloc (.map #[] 0))) := (Below.refl _ _).alloc (by simp) _
  have hs0 : ((w.alloc (.cells #[.bool ex, .slice ao no co, .slice ai ni ci, .slice ac mc cc] 32)).alloc (.map #[] 0)).heap.size = w.heap.size + 1 + 1 := by simp
  have HCD := Lib.hid (fun b => HCC.out ((w.alloc (.cells #[.bool ex, .slice ao no co, .slice ai ni ci, .slice ac mc cc] 32)).alloc (.map #[] 0)) b (HB1.out _ HX0.out))
  rw [hs0] at HCD
  have HM0 : Hid (((w.alloc (.cells #[.bool ex, .slice ao no co, .slice ai ni ci, .slice ac mc cc] 32)).alloc (.map #[] 0)).ownsMap Tryd.prog 3 (plainElem Tryd.prog 3) (w.heap.size + 1) 0 (.map [] : DataW Unit)) := by
    have h := World.ownsMap_made (H := Unit) (w.alloc (.cells #[.bool ex, .slice ao no co, .slice ai ni ci, .slice ac mc cc] 32)) Tryd.prog 3 (plainElem Tryd.prog 3)
    unfold Hid
    simpa using h
  clear HCC
  go_enter Tryd.func55, Tryd.ntmps55
  go_wp2_with (go_at_call 78; refine (HCD.out _).mono ?_; rintro e w2 ⟨⟨v, rfl, hv⟩, hb2⟩; obtain ⟨av, cv, rfl, hvr⟩ := hv)
  clear hmm
  have HM2 := Lib.hid (ownsMap_block HM0.out (hb2.block (w.heap.size + 1) (by omega)))
  have HB2 := Lib.hid (HX0.out.trans (hb2.mono (by omega)))
  have hs2 : w.heap.size + 1 + 1 ≤ w2.heap.size := by have := hb2.size; simpa using this
  obtain ⟨hv1, hv2, hv3⟩ := hvr
  unfold maxLen at hv2
  have HV3 := Lib.hid hv3
  clear hv3 hb2 HM0 HX0 HCD hs0
  generalize hnx : xs.length = nx at *
  have HNX := Lib.hid hnx; clear hnx
  go_loopw [4, 5, 6, 7, 16] (fun _ _ _ _ i wr => ∃ (k N : Nat) (D : DataW Unit), k ≤ nx ∧ N ≤ k ∧ i = .int .i64 k ∧ wr.ownsMap Tryd.prog 3 (plainElem Tryd.prog 3) (w.heap.size + 1) N D ∧ Hid (MapI D (xs.take k)) ∧ w2.grownBy wr (some (w.heap.size + 1))) (fun _ _ _ _ i _ => nx - (intOf i).toNat)
  case atStart => exact ⟨0, 0, _, Nat.zero_le _, Nat.le_refl _, rfl, HM2.out, MapI.start, World.grownBy.refl _ _⟩
  case round =>
    obtain ⟨k, N, D, hk, hNk, rfl, hown, HMI, hg⟩ := hrel
    by_cases hlt : k < nx
    · obtain ⟨b, off, ha, hbl, hcx⟩ := HV3.out.resolve_left (by omega)
      subst ha
      have f0 := hcx k hlt
      have hbm : b ≠ w.heap.size + 1 := fun e => by
        obtain ⟨es, cl, h1, _⟩ := HM2.out
        rw [e] at f0
        simp [World.cell?, h1] at f0
      have g0 : wr.cell? ⟨b, off + k, none⟩ = some (.int .i64 (xs.getD k 0)) := (World.cell?_of_block (a := ⟨b, off + k, none⟩) (hg.block b hbl (fun e => hbm (by injection e)))).trans f0
      obtain ⟨q1, q2⟩ := HBD.out k hlt
      have hkx : k < xs.length := by rw [HNX.out]; exact hlt
      have HTK := Lib.hid (take_snoc xs k hkx)
      have HTL := Lib.hid (show (xs.take k).length = k by rw [List.length_take]; omega)
      clear f0 hcx hkx
      generalize xs.getD k 0 = x at *
      have hkey := keyI x q1 q2
      obtain ⟨r, hr⟩ : ∃ r, decide (x ∈ xs.take k) = r := ⟨_, rfl⟩
      have hh : Maps.has D (Lit.int .i64 x) = r := (HMI.out.2 x).1.trans hr
      have HR := Lib.hid hr
      clear hr
      have hkb : k ≤ 1000000 := by have := HLN.out; omega
      have HG := Lib.hid hg
      have HGS := Lib.hid hg.size
      clear hg
      cases r with
      | true =>
        have HMJ : Hid (MapI D (xs.take (k + 1))) := by rw [HTK.out]; exact HMI.out.old (of_decide_eq_true HR.out)
        go_wp2_with (at_lookup; refine wpList_lookup_own_ok_int _ rfl _ _ 99 rfl 3 3 .i64 lawI Tryd.underlying99 Tryd.underlying3 (zeroI _) (w.heap.size + 1) N D rfl hown _ _ rfl hkey ?_; intro cv' hat hwc; clear hat hwc)
        go_roundw
        case rel => exact ⟨k + 1, N, D, by omega, by omega, by go_num, hown, HMJ.out, HG.out⟩
        case measure => simp [intOf]; omega
      | false =>
        have HMJ : Hid (MapI (D.put (.int .i64 x) (.lit (.int .i64 ((k : Int) + 1)))) (xs.take (k + 1))) := by
          have := HMI.out.put (y := x) (of_decide_eq_false HR.out)
          rw [HTL.out] at this
          rw [HTK.out]
          unfold Hid
          simpa using this
        go_wp2_with (first
          | (at_lookup; refine wpList_lookup_own_ok_int _ rfl _ _ 99 rfl 3 3 .i64 lawI Tryd.underlying99 Tryd.underlying3 (zeroI _) (w.heap.size + 1) N D rfl hown _ _ rfl hkey ?_; intro cv' hat hwc; clear hat hwc)
          | (at_mapUpdate; refine wpList_mapUpdate_own _ rfl _ _ _ 99 rfl 3 3 lawI Tryd.underlying99 (plainElem (H := Unit) Tryd.prog 3) (w.heap.size + 1) N D rfl hown (by unfold maxLen; omega) _ (.int .i64 ((k : Int) + 1)) _ rfl rfl hkey _ [] (plainElem_int Tryd.underlying3 (WalkArith.wf_i64 ⟨by omega, by omega⟩)) ?_; intro w3 hown3 hg3))
        go_roundw
        case rel => exact ⟨k + 1, N + 1, _, by omega, by omega, by go_num, hown3, HMJ.out, HG.out.trans hg3⟩
        case measure => simp [intOf]; omega
    · have hkn : k = nx := by omega
      subst hkn
      have HMZ := Lib.hid (show MapZ (D.del (.int .i64 0)) xs from by
        have := HMI.out.del
        rwa [← HNX.out, List.take_length] at this)
      have HG := Lib.hid hg
      clear hg
      go_wp2_with (at_delete; refine wpList_delete_own _ rfl _ _ 99 3 rfl 3 lawI Tryd.underlying99 _ (w.heap.size + 1) N D rfl hown _ _ rfl (keyI 0 (by omega) (by omega)) ?_; intro w3 hown3 hturn3)
      go_ret
      exact ⟨⟨_, N, _, rfl, hown3, HMZ.out⟩, HB1.out _ ((HB2.out.grown HG.out (by omega) (fun j hj => by cases hj; exact Nat.le_refl _)).grown hturn3.grown (by have := HG.out.size; omega) (fun j hj => by cases hj; exact Nat.le_refl _))⟩
end Go.Proofs.YtcodmijphejfdaaDoor
