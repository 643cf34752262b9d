/- The contract of prefix.Matrix. Conditions: the game reads as lists of 64-bit ints, not too long, no literal the least int. -/
import Derived.Test.YtcodmijphejfdaaDoorRenP
import Derived.Test.YtcodmijphejfdaaDoorCopies
namespace Go.Proofs.YtcodmijphejfdaaDoor
open Go.RowKit Go.Maps

def okM (xs : List Int) (xss : List (List Int)) : Bool := xss.all fun c => c.all (okP xs)
def renM (xs : List Int) (xss : List (List Int)) : List (List Int) := xss.map fun c => c.map (renP xs)

set_option maxHeartbeats 4000000 in
set_option maxRecDepth 100000 in
theorem matrix_any (ex : Bool) (vo vi : Value) (ol il : List Int) (a : Option Addr) (c : Nat) (xss : List (List Int)) (w : World) (ho : Row w vo ol) (hi : Row w vi il) (hr : RowsAt w a c xss) (hn : ol.length + il.length ≤ 1000000) (hb : ∀ v ∈ ol ++ il, -9223372036854775808 ≤ v ∧ v ≤ 9223372036854775807)
    (hint : ∀ xs ∈ xss, ∀ l ∈ xs, -9223372036854775807 ≤ l ∧ l ≤ 9223372036854775807) (hlen : ∀ xs ∈ xss, xs.length ≤ 1000000) (hm : xss.length ≤ 1000000) :
    Calls Tryd.prog 42 #[.agg #[.bool ex, vo, vi, .slice a xss.length c]] w fun e w' => (∃ u, e = .returned (.tuple #[u, .bool (okM (ol ++ il) xss)]) ∧ (okM (ol ++ il) xss = false → u = .slice none 0 0) ∧ (okM (ol ++ il) xss = true → CRow w' w.heap.size u (renM (ol ++ il) xss))) ∧ Below w.heap.size w w' := by
  have HPL := Lib.hid (fun W (hW : Below w.heap.size w W) => places_any ex vo vi (.slice a xss.length c) ol il W (ho.keep hW) (hi.keep hW) ⟨_, _, _, rfl⟩ hn hb)
  have HBX : Hid (∀ W, Below (w.alloc (.cells #[.bool ex, vo, vi, .slice a xss.length c] 32)).heap.size (w.alloc (.cells #[.bool ex, vo, vi, .slice a xss.length c] 32)) W → W.cell? ⟨w.heap.size, 3, none⟩ = some (.slice a xss.length c) ∧ Below w.heap.size w W) := fun W h => ⟨(cells4 w W _ _ _ _ _ h).1.2.2.2, ((Below.refl _ w).alloc (Nat.le_refl _) _).trans (h.mono (by simp))⟩
  obtain ⟨ao, co, rfl, _⟩ := ho
  obtain ⟨ai, ci, rfl, _⟩ := hi
  have HXL : Hid ((ol ++ il).length ≤ 1000000) := by unfold Hid; rw [List.length_append]; exact hn
  obtain ⟨hr1, hr2, hr3⟩ := hr
  unfold maxLen at hr2
  have HR3 := Lib.hid hr3; clear hr3
  have HRN := Lib.hid (fun k (hk : k < xss.length) v b N D W (hv : Row W v (xss.getD k [])) hm hz => rename_any v (xss.getD k []) (ol ++ il) b N D W hv hm hz (hlen _ (by simp [List.getD, hk])) (hint _ (by simp [List.getD, hk])) HXL.out)
  have HNO : Hid (∀ k, k < xss.length → (xss.getD k []).all (okP (ol ++ il)) = false → okM (ol ++ il) xss = false) := fun k hk h => by
    unfold okM
    rw [List.all_eq_false]
    exact ⟨xss.getD k [], by simp [List.getD, hk], by rw [h]; simp⟩
  have HYES : Hid ((∀ j, j < xss.length → (xss.getD j []).all (okP (ol ++ il)) = true) → okM (ol ++ il) xss = true) := fun h => by
    unfold okM
    rw [List.all_eq_true]
    intro l hl
    obtain ⟨j, hj, rfl⟩ := List.getElem_of_mem hl
    simpa [List.getD, hj] using h j hj
  have HTK : Hid (∀ k, k < xss.length → renM (ol ++ il) (xss.take (k + 1)) = renM (ol ++ il) (xss.take k) ++ [(xss.getD k []).map (renP (ol ++ il))]) := fun k hk => by
    unfold renM
    rw [List.take_succ_eq_append_getElem hk, List.map_append]
    simp [List.getD, hk]
  have HTE : Hid (renM (ol ++ il) (xss.take xss.length) = renM (ol ++ il) xss) := by rw [List.take_length]; rfl
  have HLL : Hid (∀ k, k ≤ xss.length → (renM (ol ++ il) (xss.take k)).length = k) := fun k hk => by
    unfold renM
    rw [List.length_map, List.length_take]; omega
  clear hint hlen hn hb HXL
  generalize hxs : ol ++ il = xs at *
  clear hxs
  generalize okM xs xss = al at *
  generalize hM : xss.length = m at *
  have HM := Lib.hid hM; clear hM
  go_enter Tryd.func42, Tryd.ntmps42
  go_wp2_with (go_at_call 55; refine (HPL.out _ ((Below.refl _ w).alloc (Nat.le_refl _) _)).mono ?_; rintro e w1 ⟨⟨b, N, D, rfl, hmap, hz⟩, hb1⟩; obtain ⟨x3, hbw1⟩ := HBX.out _ hb1)
  have HMP := Lib.hid (fun W (hW : Below w1.heap.size w1 W) => ownsMap_block hmap (hW.block b hmap.lt))
  have HZ := Lib.hid hz
  have HBW := Lib.hid hbw1
  clear hmap hz hb1 HPL HBX
  have hb1 := HBW.out.size
  go_loopw [5, 7, 8, 9, 15] (fun o _ _ _ i wr => ∃ (k : Nat) (vs : List Value), k ≤ m ∧ i = .int .i64 k ∧ ClG wr w1.heap.size o (.slice none 0 0) vs (renM xs (xss.take k)) [] ∧ Below w1.heap.size w1 wr ∧ Hid (∀ j, j < k → (xss.getD j []).all (okP xs) = true)) (fun _ _ _ _ i _ => m - (intOf i).toNat)
  case atStart => exact ⟨0, [], Nat.zero_le _, rfl, ClG.start _ _, Below.refl _ _, fun j hj => absurd hj (Nat.not_lt_zero _)⟩
  case round =>
    obtain ⟨k, vs, hk, rfl, hcl, hbr1, HOKS⟩ := hrel
    have hbr := HBW.out.trans (hbr1.mono hb1)
    by_cases hlt : k < m
    · obtain ⟨rb, ro, ha, hrb, hrc⟩ := HR3.out.resolve_left (by omega)
      subst ha
      obtain ⟨v, f1, hvr⟩ := hrc k hlt
      have f1' := (hbr.cell (p := ⟨rb, ro + k, none⟩) hrb).trans f1
      clear f1 hrc
      have HRK := Lib.hid (HRN.out k hlt v b N D wr (hvr.keep hbr) (HMP.out _ hbr1) HZ.out)
      have HNK := Lib.hid (HNO.out k hlt)
      have HTKK := Lib.hid (HTK.out k hlt)
      have hdl := HLL.out k hk
      have HOK1 : Hid ((xss.getD k []).all (okP xs) = true → ∀ j, j < k + 1 → (xss.getD j []).all (okP xs) = true) := fun h j hj => by
        by_cases e : j = k
        · subst e; exact h
        · exact HOKS.out j (by omega)
      have HML : Hid (((xss.getD k []).map (renP xs)).length = (xss.getD k []).length) := by unfold Hid; rw [List.length_map]
      generalize (xss.getD k []).map (renP xs) = ys at *
      generalize (xss.getD k []).all (okP xs) = r at *
      obtain ⟨av, cv, rfl, _⟩ := hvr
      obtain ⟨aq, cq, hq⟩ := own_shape3 hcl.out
      rw [hdl] at hq
      subst hq
      have HOUT := Lib.hid (fun W (hW : Below wr.heap.size wr W) => own_keep hcl.out hW)
      rw [hdl] at HOUT
      have HCG := Lib.hid (fun W u (hW : Below wr.heap.size wr W) hu => (hcl.cur hbr1.size hW hu : ClG W w1.heap.size _ u vs (renM xs (xss.take k)) ys))
      rw [HML.out] at HCG
      have HBS := Lib.hid hbr.size
      have HBR1 := Lib.hid hbr1
      have HBR := Lib.hid hbr
      have HDL := Lib.hid hdl
      clear hcl hbr hbr1 hdl HML
      generalize (xss.getD k []).length = ny at *
      cases r with
      | false =>
        have HALF := Lib.hid (HNK.out rfl)
        go_wp2_with (go_at_call 56; refine HRK.out.mono ?_; rintro e w3 ⟨⟨u, rfl, hu, _⟩, hb3⟩; obtain rfl := hu rfl)
        go_ret2
        refine ⟨⟨_, by first | (rw [HALF.out]; rfl) | rw [HALF.out], fun _ => rfl, fun h => ?_⟩, HBR.out.trans (hb3.mono HBS.out)⟩
        rw [HALF.out] at h
        cases h
      | true =>
        have HOK := Lib.hid (HOK1.out rfl)
        go_wp2_with (first
          | (go_at_call 56; refine HRK.out.mono ?_; rintro e w3 ⟨⟨u, rfl, _, hu⟩, hb3⟩; have hur := hu rfl; have hcg := HCG.out w3 u hb3 hur; have hs3 := hb3.size; have hou := HOUT.out w3 hb3; obtain ⟨au, cu, rfl⟩ := own_shape3 hur; clear hu)
          | (at_builtin; refine wpList_appV 23 30 (.slice none 0 0) 24 Tryd.underlying23 infoInts rfl (by decide) rfl _ _ rfl w3 w1.heap.size _ _ vs (.slice au ny cu) rfl hou (by have := HBR1.out.size; omega) (by omega) _ rfl rfl rfl ?_; intro o' w4 hown4 hap4))
        go_roundw
        case rel =>
          refine ⟨k + 1, vs ++ [.slice au ny cu], by omega, by go_num, ?_, HBR1.out.trans ((hb3.mono HBR1.out.size).trans hap4.below), HOK.out⟩
          rw [HTKK.out]
          exact hcg.push hap4 (by rw [HDL.out]; exact hown4)
        case measure => simp [intOf]; omega
    · have hkm : k = m := by omega
      subst hkm
      have HCR := Lib.hid (show CRow wr w.heap.size _ (renM xs (xss.take k)) from CRow.mono ⟨_, _, _, hcl⟩ hb1)
      rw [HTE.out] at HCR
      have HALT := Lib.hid (HYES.out HOKS.out)
      have HBR := Lib.hid hbr
      obtain ⟨aq, nq, cq, rfl⟩ := slice_of hcl.out
      clear hcl hbr hbr1
      go_wp2_with fail
      go_ret2
      refine ⟨⟨_, by first | (rw [HALT.out]; rfl) | rw [HALT.out], fun h => ?_, fun _ => HCR.out⟩, HBR.out⟩
      rw [HALT.out] at h
      cases h
end Go.Proofs.YtcodmijphejfdaaDoor
