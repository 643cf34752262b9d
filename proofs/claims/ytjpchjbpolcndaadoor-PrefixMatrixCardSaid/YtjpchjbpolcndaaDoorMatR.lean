/- The contract of skolemref1.Matrix: the clauses renamed, or none. Conditions: the game reads as lists of 64-bit ints, no literal the least int. -/
import Derived.Test.YtjpchjbpolcndaaDoorPlaceR
import Derived.Deep.RegionHeld3
import Derived.Deep.DeepCutAuto
import Derived.Deep.CutBlock
namespace Go.Proofs.YtjpchjbpolcndaaDoor
open Go.RowKit

theorem okP_no {xs : List Int} {l : Int} (h : okP xs l = false) : l = 0 ∨ posOf xs (absI l) = 0 := by
  have h1 := of_decide_eq_false h
  by_cases h0 : l = 0
  · exact .inl h0
  · refine .inr ?_
    unfold posOf
    rw [if_neg fun hm => h1 ⟨hm, fun e => h0 (by unfold absI at e; split at e <;> omega)⟩]
theorem okP_yes {xs : List Int} {l : Int} (h : okP xs l = true) : l ≠ 0 ∧ 1 ≤ posOf xs (absI l) := by
  have h1 := of_decide_eq_true h
  refine ⟨fun e => h1.2 (by subst e; simp [absI]), ?_⟩
  unfold posOf
  rw [if_pos h1.1]
  omega
theorem posOf_le (xs : List Int) (y : Int) : posOf xs y ≤ xs.length := by
  unfold posOf
  split
  · have := List.idxOf_lt_length_of_mem (by assumption : y ∈ xs); omega
  · omega

set_option maxRecDepth 8000 in
set_option maxHeartbeats 4000000 in
theorem refMatrix_any (ex : Bool) (vo vi : Value) (ol il : List Int) (a : Option Addr) (c : Nat) (xss : List (List Int)) (w : World) (ho : Row w vo ol) (hi : Row w vi il) (hr : RowsAt w a c xss) (hno : ol.length ≤ 100000) (hni : il.length ≤ 100000)
    (hint : ∀ xs ∈ xss, ∀ l ∈ xs, -9223372036854775807 ≤ l ∧ l ≤ 9223372036854775807) (hlen : ∀ xs ∈ xss, xs.length ≤ 1000000) (hm : xss.length ≤ 1000000) :
    Calls Tryd.prog 43 #[.agg #[.bool ex, vo, vi, .slice a xss.length c]] w fun e w' => (∃ u, e = .returned (.tuple #[u, .bool (okM (ol ++ il) xss)]) ∧ (okM (ol ++ il) xss = false → u = .slice none 0 0) ∧ (okM (ol ++ il) xss = true → CRow w' w.heap.size u (renM (ol ++ il) xss))) ∧ Below w.heap.size w w' := by
  have HPL := Lib.hid (fun y W (hW : Below w.heap.size w W) => place_any ex vo vi (.slice a xss.length c) ol il y W (ho.keep hW) (hi.keep hW) ⟨_, _, _, rfl⟩ (by omega) (by omega))
  have HPB : Hid (∀ y, posOf (ol ++ il) y ≤ 200000) := fun y => by have := posOf_le (ol ++ il) y; rw [List.length_append] at this; show _ ≤ _; omega
  have HCX : Hid (∀ W, Below (w.heap.size + 1) (w.alloc (.cells #[.bool ex, vo, vi, .slice a xss.length c] 26)) W → (W.cell? ⟨w.heap.size, 0, none⟩ = some (.bool ex) ∧ W.cell? ⟨w.heap.size, 1, none⟩ = some vo ∧ W.cell? ⟨w.heap.size, 2, none⟩ = some vi ∧ W.cell? ⟨w.heap.size, 3, none⟩ = some (.slice a xss.length c)) ∧ Below w.heap.size w W) := fun W h =>
    ⟨(cells4 w W _ _ _ _ 26 (by simpa using h)).1, ((Below.refl _ w).alloc (Nat.le_refl _) _).trans (h.mono (by omega))⟩
  obtain ⟨ao, co, rfl, _⟩ := ho
  obtain ⟨ai, ci, rfl, _⟩ := hi
  obtain ⟨hr1, hr2, hr3⟩ := hr
  unfold maxLen at hr2
  have HR3 := Lib.hid hr3; clear hr3
  have HIN : Hid (∀ k, k < xss.length → ∀ j, j < (xss.getD k []).length → -9223372036854775807 ≤ (xss.getD k []).getD j 0 ∧ (xss.getD k []).getD j 0 ≤ 9223372036854775807) := fun k hk j hj => hint (xss.getD k []) (by simp [List.getD, hk]) _ (getD_memI _ j hj)
  have HLE : Hid (∀ k, k < xss.length → (xss.getD k []).length ≤ 1000000) := fun k hk => hlen _ (by simp [List.getD, hk])
  have HNO : Hid (∀ k, k < xss.length → ∀ j, j < (xss.getD k []).length → okP (ol ++ il) ((xss.getD k []).getD j 0) = false → okM (ol ++ il) xss = false) := fun k hk j hj h => by
    unfold okM
    rw [List.all_eq_false]
    refine ⟨xss.getD k [], by simp [List.getD, hk], ?_⟩
    have : ((xss.getD k []).all (okP (ol ++ il))) = false := by
      rw [List.all_eq_false]
      exact ⟨(xss.getD k []).getD j 0, getD_memI _ j hj, by rw [h]; simp⟩
    rw [this]; simp
  have HYES : Hid ((∀ k, k < xss.length → ∀ j, j < (xss.getD k []).length → okP (ol ++ il) ((xss.getD k []).getD j 0) = true) → okM (ol ++ il) xss = true) := fun h => by
    unfold okM
    rw [List.all_eq_true]
    intro l hl
    obtain ⟨k, hk, rfl⟩ := List.getElem_of_mem hl
    rw [List.all_eq_true]
    intro y hy
    obtain ⟨j, hj, rfl⟩ := List.getElem_of_mem hy
    have := h k hk j (by simpa [List.getD, hk] using hj)
    simpa [List.getD, hk, hj] using this
  have HTK : Hid (∀ k, k < xss.length → renM (ol ++ il) (xss.take (k + 1)) = renM (ol ++ il) (xss.take k) ++ [(xss.getD k []).map (renP (ol ++ il))]) := fun k hk => by
    unfold renM
    rw [List.take_succ_eq_append_getElem hk, List.map_append]
    simp [List.getD, hk]
  have HTE : Hid (renM (ol ++ il) (xss.take xss.length) = renM (ol ++ il) xss) := by rw [List.take_length]; rfl
  have HLL : Hid (∀ k, k ≤ xss.length → (renM (ol ++ il) (xss.take k)).length = k) := fun k hk => by
    unfold renM
    rw [List.length_map, List.length_take]; omega
  clear hint hlen hno hni
  generalize hxs : ol ++ il = xs at *
  clear hxs
  generalize okM xs xss = al at *
  generalize hM : xss.length = m at *
  have HM := Lib.hid hM; clear hM
  generalize ol.length = no at *
  generalize il.length = ni at *
  go_enter Tryd.func43, Tryd.ntmps43
  go_wp2_with fail
  have hsA : (w.alloc (.cells #[.bool ex, .slice ao no co, .slice ai ni ci, .slice a m c] 26)).heap.size = w.heap.size + 1 := by simp
  generalize w.alloc (.cells #[.bool ex, .slice ao no co, .slice ai ni ci, .slice a m c] 26) = wA at *
  go_loopw [4, 5, 6, 7, 8, 9] (fun o i _ _ _ _ wr => ∃ (k : Nat) (vs : List Value), k ≤ m ∧ i = .int .i64 k ∧ ClG wr (w.heap.size + 1) o (.slice none 0 0) vs (renM xs (xss.take k)) [] ∧ Below (w.heap.size + 1) wA wr ∧ Hid (∀ k', k' < k → ∀ j, j < (xss.getD k' []).length → okP xs ((xss.getD k' []).getD j 0) = true)) (fun _ i _ _ _ _ _ => m - (intOf i).toNat)
  case atStart => exact ⟨0, [], Nat.zero_le _, rfl, ClG.start _ _, Below.refl _ _, fun j hj => absurd hj (Nat.not_lt_zero _)⟩
  case round =>
    obtain ⟨k, vs, hk, rfl, hcl, hbr, HOKS⟩ := hrel
    obtain ⟨⟨c0, c1, c2, c3⟩, hbw⟩ := HCX.out wr hbr
    by_cases hlt : k < m
    · obtain ⟨rb, ro, ha, hrb, hrc⟩ := HR3.out.resolve_left (by omega)
      subst ha
      obtain ⟨v, f1, hvr⟩ := hrc k hlt
      have HVC : Hid (∀ W, Below w.heap.size w W → W.cell? ⟨rb, ro + k, none⟩ = some v) := fun W hW => (hW.cell (p := ⟨rb, ro + k, none⟩) hrb).trans f1
      have HINK := Lib.hid (HIN.out k hlt)
      have HLEK := HLE.out k hlt
      have HNOK := Lib.hid (HNO.out k hlt)
      have HTKK := Lib.hid (HTK.out k hlt)
      have hdl := HLL.out k hk
      have HOK1 : Hid ((∀ j, j < (xss.getD k []).length → okP xs ((xss.getD k []).getD j 0) = true) → ∀ k', k' < k + 1 → ∀ j, j < (xss.getD k' []).length → okP xs ((xss.getD k' []).getD j 0) = true) := fun h k' hk' => by
        by_cases e : k' = k
        · subst e; exact h
        · exact HOKS.out k' (by omega)
      clear f1 hrc
      generalize xss.getD k [] = cs at *
      have HCT := Lib.hid (fun j (hj : j < cs.length) => take_snoc cs j hj)
      have HCE : Hid (cs.take cs.length = cs) := List.take_length
      obtain ⟨av, cv, rfl, hv1, hv2, hv3⟩ := hvr
      unfold maxLen at hv2
      have HV3 := Lib.hid hv3; clear hv3
      obtain ⟨ao', co', hq⟩ := own_shape3 hcl.out
      rw [hdl] at hq
      subst hq
      have HDL := Lib.hid hdl; clear hdl
      generalize hcn : cs.length = n at *
      have HCN := Lib.hid hcn; clear hcn
      have f1 := HVC.out wr hbw
      have hbs0 := hbr.size
      go_wp2_with fail
      go_loopw [6, 7, 8, 9] (fun cv' j _ _ wr2 => ∃ (q : Nat) (cur : List Int), q ≤ n ∧ j = .int .i64 q ∧ ClG wr2 (w.heap.size + 1) (.slice ao' k co') cv' vs (renM xs (xss.take k)) cur ∧ Hid (cur = (cs.take q).map (renP xs)) ∧ Below (w.heap.size + 1) wA wr2 ∧ Hid (∀ j, j < q → okP xs (cs.getD j 0) = true)) (fun _ j _ _ _ => n - (intOf j).toNat)
      case atStart => exact ⟨0, [], Nat.zero_le _, rfl, hcl, by simp [Hid], hbr, fun j hj => absurd hj (Nat.not_lt_zero _)⟩
      case round =>
        obtain ⟨q, cur, hq, rfl, hcl2, HCUR, hbr2, HQ⟩ := hrel
        obtain ⟨⟨d0, d1, d2, d3⟩, hbw2⟩ := HCX.out wr hbr2
        have f2 := HVC.out wr hbw2
        have hbs2 := hbr2.size
        clear c0 c1 c2 c3 f1 hcl hbr hbw
        have HBW2 := Lib.hid hbw2
        have HBR2 := Lib.hid hbr2
        have HCL2 := Lib.hid hcl2
        obtain ⟨ac2, cc2, rfl⟩ := own_shape3 hcl2.row
        by_cases hqn : q < n
        · obtain ⟨vb, vo, hva, hvb, hvc⟩ := HV3.out.resolve_left (by omega)
          subst hva
          have f3 := (hbw2.cell (p := ⟨vb, vo + q, none⟩) hvb).trans (hvc q hqn)
          obtain ⟨b1, b2⟩ := HINK.out q hqn
          have HNQ := Lib.hid (HNOK.out q hqn)
          have HCTQ := Lib.hid (HCT.out q hqn)
          have HQ1 : Hid (okP xs (cs.getD q 0) = true → ∀ j, j < q + 1 → okP xs (cs.getD j 0) = true) := fun h j hj => by
            by_cases e : j = q
            · subst e; exact h
            · exact HQ.out j (by omega)
          clear hvc hcl2 hbr2 hbw2
          generalize cs.getD q 0 = l at *
          have HPLL := Lib.hid (HPL.out (absI l))
          have HAB := Lib.hid (fun W => abs_any l W b1 b2)
          have hpb := HPB.out (absI l)
          have HREN : Hid (renP xs l = if l < 0 then -(posOf xs (absI l) : Int) else posOf xs (absI l)) := rfl
          have HON := Lib.hid (@okP_no xs l)
          have HOY := Lib.hid (@okP_yes xs l)
          generalize posOf xs (absI l) = p at *
          generalize absI l = y at *
          cases hok : okP xs l with
          | false =>
            have HALF := Lib.hid (HNQ.out hok)
            by_cases hl0 : l = 0
            · subst hl0
              clear hok HON HOY HQ1
              go_wp2_with fail
              go_ret2
              refine ⟨⟨_, by first | (rw [HALF.out]; rfl) | rw [HALF.out], fun _ => rfl, fun h => ?_⟩, HBW2.out⟩
              rw [HALF.out] at h
              cases h
            · have hp0 : p = 0 := (HON.out hok).resolve_left hl0
              subst hp0
              have hz : (l == -l) = false := beq_eq_false_iff_ne.2 (by omega)
              clear hok HON HOY HQ1
              go_wp2_with fail
              go_region_held3 (fun W => W.cell? ⟨w.heap.size, 0, none⟩ = some (.bool ex) ∧ W.cell? ⟨w.heap.size, 1, none⟩ = some (.slice ao no co) ∧ W.cell? ⟨w.heap.size, 2, none⟩ = some (.slice ai ni ci) ∧ W.cell? ⟨w.heap.size, 3, none⟩ = some (.slice (some ⟨rb, ro, none⟩) m c)) (first | exact (HCX.out _ HBR2.out).1 | exact (HCX.out _ HBR2.out.drew).1 | exact (HCX.out _ (below_drewN HBR2.out _)).1 | exact (HCX.out _ hb4).1) (first
                | (go_at_call 61; refine (HAB.out _).mono ?_; rintro e w' ⟨rfl, rfl⟩)
                | (go_at_call 68; refine (HPLL.out _ (by first | exact HBW2.out.drew | exact HBW2.out)).mono ?_; rintro e w4 ⟨rfl, hw4⟩; have hb4 := HBR2.out.drew.trans (hw4.mono (by rw [hsA] at hbs2; simpa using hbs2))))
              all_goals go_wp2_with fail
              all_goals go_ret2
              all_goals refine ⟨⟨_, by first | (rw [HALF.out]; rfl) | rw [HALF.out], fun _ => rfl, fun h => ?_⟩, (HCX.out _ hb4).2⟩
              all_goals rw [HALF.out] at h
              all_goals cases h
          | true =>
            obtain ⟨hl0, hp1⟩ := HOY.out hok
            have HQ2 := Lib.hid (HQ1.out hok)
            have hz : (l == -l) = false := beq_eq_false_iff_ne.2 (by omega)
            have hpz : ((p : Int) == 0) = false := beq_eq_false_iff_ne.2 (by omega)
            have hcl : cur.length ≤ 1000000 := by rw [HCUR.out, List.length_map, List.length_take]; omega
            clear hok HON HOY HQ1 HNQ
            by_cases hneg : l < 0
            · have hd1 : decide (l < 0) = true := decide_eq_true hneg
              have HCU2 : Hid (cur ++ [-(p : Int)] = (cs.take (q + 1)).map (renP xs)) := by
                unfold Hid
                rw [HCTQ.out, List.map_append, HCUR.out]
                simp only [List.map_cons, List.map_nil, HREN.out, if_pos hneg]
              clear HREN
              go_wp2_with fail
              go_region_held3 (fun W => W.cell? ⟨w.heap.size, 0, none⟩ = some (.bool ex) ∧ W.cell? ⟨w.heap.size, 1, none⟩ = some (.slice ao no co) ∧ W.cell? ⟨w.heap.size, 2, none⟩ = some (.slice ai ni ci) ∧ W.cell? ⟨w.heap.size, 3, none⟩ = some (.slice (some ⟨rb, ro, none⟩) m c)) (first | exact (HCX.out _ HBR2.out).1 | exact (HCX.out _ HBR2.out.drew).1 | exact (HCX.out _ (below_drewN HBR2.out _)).1 | exact (HCX.out _ hb4).1) (first
                | (go_at_call 61; refine (HAB.out _).mono ?_; rintro e w' ⟨rfl, rfl⟩)
                | (go_at_call 68; refine (HPLL.out _ (by first | exact HBW2.out.drew | exact HBW2.out)).mono ?_; rintro e w4 ⟨rfl, hw4⟩; have hb24 := (Below.refl _ _).drew.trans (hw4.mono (Nat.le_refl _)); have hb4 := HBR2.out.drew.trans (hw4.mono (by rw [hsA] at hbs2; simpa using hbs2))))
              have hcl4 := HCL2.out.keep hb24
              have hs4 := hb4.size
              go_wp2_with (at_builtin; refine wpList_app1 rfl _ _ rfl w4 (w.heap.size + 1) _ _ cur (-(p : Int)) hcl4.row (by omega) (by omega) rfl rfl ?_; intro o6 w6 hown6 hap6)
              go_roundw
              case rel => exact ⟨q + 1, cur ++ [-(p : Int)], by omega, by go_num, hcl4.add hap6 hown6, HCU2.out, hb4.trans hap6.below, HQ2.out⟩
              case measure => simp [intOf]; omega
            · have hd1 : decide (l < 0) = false := decide_eq_false hneg
              have HCU2 : Hid (cur ++ [(p : Int)] = (cs.take (q + 1)).map (renP xs)) := by
                unfold Hid
                rw [HCTQ.out, List.map_append, HCUR.out]
                simp only [List.map_cons, List.map_nil, HREN.out, if_neg hneg]
              clear HREN
              go_wp2_with fail
              go_region_held3 (fun W => W.cell? ⟨w.heap.size, 0, none⟩ = some (.bool ex) ∧ W.cell? ⟨w.heap.size, 1, none⟩ = some (.slice ao no co) ∧ W.cell? ⟨w.heap.size, 2, none⟩ = some (.slice ai ni ci) ∧ W.cell? ⟨w.heap.size, 3, none⟩ = some (.slice (some ⟨rb, ro, none⟩) m c)) (first | exact (HCX.out _ HBR2.out).1 | exact (HCX.out _ HBR2.out.drew).1 | exact (HCX.out _ (below_drewN HBR2.out _)).1 | exact (HCX.out _ hb4).1) (first
                | (go_at_call 61; refine (HAB.out _).mono ?_; rintro e w' ⟨rfl, rfl⟩)
                | (go_at_call 68; refine (HPLL.out _ (by first | exact HBW2.out.drew | exact HBW2.out)).mono ?_; rintro e w4 ⟨rfl, hw4⟩; have hb24 := (Below.refl _ _).drew.trans (hw4.mono (Nat.le_refl _)); have hb4 := HBR2.out.drew.trans (hw4.mono (by rw [hsA] at hbs2; simpa using hbs2))))
              have hcl4 := HCL2.out.keep hb24
              have hs4 := hb4.size
              go_wp2_with (at_builtin; refine wpList_app1 rfl _ _ rfl w4 (w.heap.size + 1) _ _ cur ((p : Int)) hcl4.row (by omega) (by omega) rfl rfl ?_; intro o6 w6 hown6 hap6)
              go_roundw
              case rel => exact ⟨q + 1, cur ++ [(p : Int)], by omega, by go_num, hcl4.add hap6 hown6, HCU2.out, hb4.trans hap6.below, HQ2.out⟩
              case measure => simp [intOf]; omega
        · have hqn2 : q = n := by omega
          subst hqn2
          have HOKK := Lib.hid (HOK1.out (fun j hj => HQ.out j (by omega)))
          have HCU3 : Hid (cur = cs.map (renP xs)) := by rw [HCUR.out, HCE.out]; rfl
          have HOUT := Lib.hid hcl2.out
          rw [HDL.out] at HOUT
          clear hcl2 hbr2 hbw2 HQ HOK1 HNOK
          generalize cur.length = nq at *
          go_wp2_with (at_builtin; refine wpList_appV 24 22 (.slice none 0 0) 24 Tryd.underlying24 infoInts rfl (by decide) rfl _ _ rfl wr (w.heap.size + 1) _ _ vs (.slice ac2 nq cc2) rfl HOUT.out (by omega) (by omega) _ rfl rfl rfl ?_; intro o7 w7 hown7 hap7)
          go_roundw
          case rel =>
            refine ⟨k + 1, vs ++ [.slice ac2 nq cc2], by omega, by go_num, ?_, HBR2.out.trans hap7.below, HOKK.out⟩
            rw [HTKK.out, ← HCU3.out]
            exact HCL2.out.push hap7 (by rw [HDL.out]; exact hown7)
          case measure => simp [intOf]; omega
    · have hkm : k = m := by omega
      subst hkm
      have HALT := Lib.hid (HYES.out HOKS.out)
      have HCR := Lib.hid (show CRow wr w.heap.size _ (renM xs (xss.take k)) from CRow.mono ⟨_, _, _, hcl⟩ (by omega))
      rw [HTE.out] at HCR
      have HBW := Lib.hid hbw
      obtain ⟨aq, nq, cq, rfl⟩ := slice_of hcl.out
      clear hcl hbr hbw HOKS HYES
      go_wp2_with fail
      go_ret2
      refine ⟨⟨_, by first | (rw [HALT.out]; rfl) | rw [HALT.out], fun h => ?_, fun _ => HCR.out⟩, HBW.out⟩
      rw [HALT.out] at h
      cases h
end Go.Proofs.YtjpchjbpolcndaaDoor
