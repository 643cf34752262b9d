/- Contracts of prefix.rename and prefix.Matrix. Conditions: the game reads as lists of 64-bit ints, not too long, no literal the least int. -/
import Derived.Test.YtcodmijphejfdaaDoorPlc
namespace Go.Proofs.YtcodmijphejfdaaDoor
open Go.RowKit Go.Maps

/-- A literal that has a place, and what it is then. -/
def okP (xs : List Int) (l : Int) : Bool := decide (absI l ∈ xs ∧ absI l ≠ 0)
def renP (xs : List Int) (l : Int) : Int := if l < 0 then -(posOf xs (absI l) : Int) else posOf xs (absI l)

set_option maxHeartbeats 4000000 in
set_option maxRecDepth 100000 in
theorem rename_any (v : Value) (cs xs : List Int) (b N : Nat) (D : DataW Unit) (w : World) (hv : Row w v cs) (hm : w.ownsMap Tryd.prog 3 (plainElem Tryd.prog 3) b N D) (hz : MapZ D xs) (hn : cs.length ≤ 1000000) (hb : ∀ l ∈ cs, -9223372036854775807 ≤ l ∧ l ≤ 9223372036854775807) (hx : xs.length ≤ 1000000) :
    Calls Tryd.prog 56 #[v, .map (some b)] w fun e w' => (∃ u, e = .returned (.tuple #[u, .bool (cs.all (okP xs))]) ∧ (cs.all (okP xs) = false → u = .slice none 0 0) ∧ (cs.all (okP xs) = true → w'.ownsRow w.heap.size 3 1 u cs.length ((cs.map (renP xs)).map (Value.int .i64)))) ∧ Below w.heap.size w w' := by
  obtain ⟨av, cv, rfl, hv1, hv2, hv3⟩ := hv
  unfold maxLen at hv2
  have HV3 := Lib.hid hv3; clear hv3
  have HBD : Hid (∀ k, k < cs.length → -9223372036854775807 ≤ cs.getD k 0 ∧ cs.getD k 0 ≤ 9223372036854775807) := fun k hk => hb _ (getD_memI _ k hk)
  have hbl : b < w.heap.size := hm.lt
  have HM := Lib.hid (fun W (hW : Below w.heap.size w W) => ownsMap_block hm (hW.block b hbl))
  have HZ := Lib.hid hz
  have HPB : Hid (∀ y, posOf xs y ≤ 1000000) := fun y => by
    unfold posOf
    split
    · have := List.idxOf_lt_length_of_mem (by assumption : y ∈ xs); omega
    · omega
  have HNO : Hid (∀ k, k < cs.length → okP xs (cs.getD k 0) = false → cs.all (okP xs) = false) := fun k hk h => by
    rw [List.all_eq_false]
    exact ⟨_, getD_memI _ k hk, by rw [h]; simp⟩
  have HYES : Hid ((∀ j, j < cs.length → okP xs (cs.getD j 0) = true) → cs.all (okP xs) = true) := fun h => by
    rw [List.all_eq_true]
    intro l hl
    obtain ⟨j, hj, rfl⟩ := List.getElem_of_mem hl
    simpa [List.getD, hj] using h j hj
  have HTK := Lib.hid (fun k (hk : k < cs.length) => take_snoc cs k hk)
  have HTE : Hid (cs.take cs.length = cs) := List.take_length
  clear hm hb hz hx
  generalize hcl : cs.all (okP xs) = al at *
  have HAL := Lib.hid hcl; clear hcl
  generalize hnn : cs.length = n at *
  have HN := Lib.hid hnn; clear hnn
  go_enter Tryd.func56, Tryd.ntmps56
  go_wp2_with (at_make; refine wpList_make0 rfl _ _ rfl w n rfl rfl (by omega) ?_; intro w1 hown1 hb1 hs1)
  go_loopw [6, 8, 9, 10, 16] (fun o _ _ _ i wr => ∃ (k : Nat) (cur : List Int), k ≤ n ∧ i = .int .i64 k ∧ wr.ownsRow w.heap.size 3 1 o cur.length (cur.map (Value.int .i64)) ∧ Below w.heap.size w wr ∧ Hid (cur = (cs.take k).map (renP xs)) ∧ Hid (∀ j, j < k → okP xs (cs.getD j 0) = true)) (fun _ _ _ _ i _ => n - (intOf i).toNat)
  case atStart => exact ⟨0, [], Nat.zero_le _, rfl, hown1, hb1, rfl, fun j hj => absurd hj (Nat.not_lt_zero _)⟩
  case round =>
    obtain ⟨k, cur, hk, rfl, hrow, hbr, HCUR, HOKS⟩ := hrel
    clear hown1 hb1 hs1
    by_cases hlt : k < n
    · obtain ⟨vb, vo, ha, hvb, hvc⟩ := HV3.out.resolve_left (by omega)
      subst ha
      have g0 := (hbr.cell (p := ⟨vb, vo + k, none⟩) hvb).trans (hvc k hlt)
      obtain ⟨q1, q2⟩ := HBD.out k hlt
      have HNK := Lib.hid (HNO.out k hlt)
      have HTKK := Lib.hid (HTK.out k hlt)
      have hcb : cur.length ≤ 1000000 := by rw [HCUR.out, List.length_map, List.length_take]; omega
      have HOK1 : Hid (okP xs (cs.getD k 0) = true → ∀ j, j < k + 1 → okP xs (cs.getD j 0) = true) := fun h j hj => by
        by_cases e : j = k
        · subst e; exact h
        · exact HOKS.out j (by omega)
      have HCU1 : Hid (cur ++ [renP xs (cs.getD k 0)] = (cs.take (k + 1)).map (renP xs)) := by
        unfold Hid
        rw [HTKK.out, List.map_append, HCUR.out]
        rfl
      clear hvc
      generalize cs.getD k 0 = l at *
      have HV := Lib.hid (fun W => var_any l W q1 q2)
      have hab : 0 ≤ absI l ∧ absI l ≤ 9223372036854775807 := by
        unfold absI
        split <;> omega
      have hkey := keyI (absI l) (by omega) hab.2
      have hh : Maps.has D (Lit.int .i64 (absI l)) = okP xs l := (HZ.out (absI l)).1
      have HREN : Hid (renP xs l = if l < 0 then -(posOf xs (absI l) : Int) else posOf xs (absI l)) := rfl
      have HAT := Lib.hid (HZ.out (absI l)).2
      have HOKD : Hid (okP xs l = true → absI l ∈ xs ∧ absI l ≠ 0) := fun h => of_decide_eq_true h
      have hpb := HPB.out (absI l)
      have HCP0 : Hid (okP xs l = true → ∀ c', D.atKey (.int .i64 (absI l)) (.lit (.int .i64 0)) = .lit (.int .i64 c') → c' = (posOf xs (absI l) : Int)) := fun h c' hc => by
        rw [HAT.out (HOKD.out h).1 (HOKD.out h).2] at hc
        injection hc with hc
        injection hc with _ hc
        exact hc.symm
      generalize posOf xs (absI l) = p at *
      generalize absI l = y at *
      obtain ⟨r, hr⟩ : ∃ r, okP xs l = r := ⟨_, rfl⟩
      rw [hr] at hh HNK HOK1 HCP0
      have HBR := Lib.hid hbr
      have HBS := Lib.hid hbr.size
      obtain ⟨ao, no, co, rfl⟩ := slice_of hrow
      clear hr HOKD HAT
      cases r with
      | false =>
        have HALF := Lib.hid (HNK.out rfl)
        go_wp2_with (first
          | (go_at_call 33; refine (HV.out _).mono ?_; rintro e w' ⟨rfl, rfl⟩)
          | (at_lookup; refine wpList_lookup_own_ok_int _ rfl _ _ 99 rfl 3 3 .i64 lawI Tryd.underlying99 Tryd.underlying3 (zeroI _) b N D rfl (HM.out _ hbr) _ _ rfl hkey ?_; intro c' hat hwc; clear hat hwc))
        go_ret2
        refine ⟨⟨_, by first | (rw [HALF.out]; rfl) | rw [HALF.out], fun _ => rfl, fun h => ?_⟩, HBR.out⟩
        rw [HALF.out] at h
        cases h
      | true =>
        have HCP := Lib.hid (HCP0.out rfl)
        have HOK := Lib.hid (HOK1.out rfl)
        by_cases hneg : l < 0
        · have hd1 : decide (l < 0) = true := decide_eq_true hneg
          have HCU : Hid (cur ++ [-(p : Int)] = (cs.take (k + 1)).map (renP xs)) := by rw [← HCU1.out, HREN.out, if_pos hneg]; rfl
          have HLE := Lib.hid (show (cur ++ [-(p : Int)]).length = cur.length + 1 by simp)
          go_wp2_with (first
            | (go_at_call 33; refine (HV.out _).mono ?_; rintro e w' ⟨rfl, rfl⟩)
            | (at_lookup; refine wpList_lookup_own_ok_int _ rfl _ _ 99 rfl 3 3 .i64 lawI Tryd.underlying99 Tryd.underlying3 (zeroI _) b N D rfl (HM.out _ hbr) _ _ rfl hkey ?_; intro c' hat hwc; obtain rfl : c' = (p : Int) := HCP.out c' hat; clear hat hwc)
            | (at_builtin; refine wpList_app1 rfl _ _ rfl wr w.heap.size _ _ cur (-(p : Int)) hrow (by have := HBS.out; omega) (by omega) rfl rfl ?_; intro v' w3 hown3 hap3))
          go_roundw
          case rel => exact ⟨k + 1, cur ++ [-(p : Int)], by omega, by go_num, by rw [HLE.out]; exact hown3, HBR.out.trans hap3.below, HCU.out, HOK.out⟩
          case measure => simp [intOf]; omega
        · have hd1 : decide (l < 0) = false := decide_eq_false hneg
          have HCU : Hid (cur ++ [(p : Int)] = (cs.take (k + 1)).map (renP xs)) := by rw [← HCU1.out, HREN.out, if_neg hneg]; rfl
          have HLE := Lib.hid (show (cur ++ [(p : Int)]).length = cur.length + 1 by simp)
          go_wp2_with (first
            | (go_at_call 33; refine (HV.out _).mono ?_; rintro e w' ⟨rfl, rfl⟩)
            | (at_lookup; refine wpList_lookup_own_ok_int _ rfl _ _ 99 rfl 3 3 .i64 lawI Tryd.underlying99 Tryd.underlying3 (zeroI _) b N D rfl (HM.out _ hbr) _ _ rfl hkey ?_; intro c' hat hwc; obtain rfl : c' = (p : Int) := HCP.out c' hat; clear hat hwc)
            | (at_builtin; refine wpList_app1 rfl _ _ rfl wr w.heap.size _ _ cur ((p : Int)) hrow (by have := HBS.out; omega) (by omega) rfl rfl ?_; intro v' w3 hown3 hap3))
          go_roundw
          case rel => exact ⟨k + 1, cur ++ [(p : Int)], by omega, by go_num, by rw [HLE.out]; exact hown3, HBR.out.trans hap3.below, HCU.out, HOK.out⟩
          case measure => simp [intOf]; omega
    · have hkn : k = n := by omega
      subst hkn
      have HALT := Lib.hid (HYES.out HOKS.out)
      obtain ⟨ao, no, co, rfl⟩ := slice_of hrow
      have HRW : Hid (wr.ownsRow w.heap.size 3 1 (.slice ao no co) k ((cs.map (renP xs)).map (Value.int .i64))) := by
        have h := hrow
        have hl : cur.length = k := by rw [HCUR.out, List.length_map, HTE.out, HN.out]
        rw [hl, HCUR.out, HTE.out] at h
        exact h
      clear hrow
      have HBR := Lib.hid hbr
      clear hbr
      go_wp2_with fail
      go_ret2
      refine ⟨⟨_, by first | (rw [HALT.out]; rfl) | rw [HALT.out], fun h => ?_, fun _ => HRW.out⟩, HBR.out⟩
      rw [HALT.out] at h
      cases h
end Go.Proofs.YtcodmijphejfdaaDoor
