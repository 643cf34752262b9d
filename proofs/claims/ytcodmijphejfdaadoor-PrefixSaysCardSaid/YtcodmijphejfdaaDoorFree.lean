/- The contract of prefix.Free: the free variables, rising, in memory of the call's own. Conditions: the formula reads as blocks and clauses, not too many; its literals are not the least int. -/
import Derived.Test.YtcodmijphejfdaaDoorSrt
import Derived.Test.YtcodmijphejfdaaDoorBrow
import Derived.Maps.OwnSet
import Derived.Maps.OwnOps
namespace Go.Proofs.YtcodmijphejfdaaDoor
open Go.RowKit Go.Maps

theorem lawI : Keyed Tryd.prog 3 := int_keyed Tryd.underlying3
theorem zeroU (w : World) : (zeroValue 69).run Tryd.prog w = .ok (.agg #[]) w := by kernel_rfl
/-- A set of ints as the map that it is. -/
def setI (zs : List Int) : DataW Unit := setOf (.agg []) (zs.map (Lit.int .i64))
theorem setI_snoc (zs : List Int) (v : Int) : setI (zs ++ [v]) = (setI zs).put (.int .i64 v) (.agg []) := by
  unfold setI
  rw [List.map_append, List.map_cons, List.map_nil, setOf_snoc]
theorem setI_has (zs : List Int) (v : Int) : Maps.has (setI zs) (.int .i64 v) = zs.contains v := by
  unfold setI
  rw [has_setOf _ _ _ (by intro x hx; obtain ⟨y, _, rfl⟩ := List.mem_map.1 hx; trivial)]
  rw [Bool.eq_iff_iff, List.any_eq_true, List.contains_iff_mem]
  constructor
  · rintro ⟨x, hx, he⟩
    obtain ⟨y, hy, rfl⟩ := List.mem_map.1 hx
    have : y = v := by simpa [Lit.sameKey] using he
    rw [← this]; exact hy
  · intro h
    exact ⟨_, List.mem_map_of_mem h, by simp [Lit.sameKey]⟩
theorem setI_nil : setI [] = .map [] := by simp [setI, setOf]
theorem ownsMap_block {P : Program} {w w' : World} {k : TypeId} {R : Value → Option (DataW Unit × List MemPlace)} {b n : Nat} {D : DataW Unit} (h : w.ownsMap P k R b n D) (he : w'.heap[b]? = w.heap[b]?) : w'.ownsMap P k R b n D := by
  obtain ⟨es, clock, h1, h2⟩ := h
  exact ⟨es, clock, he.trans h1, h2⟩
theorem keyI (v : Int) (h1 : -9223372036854775808 ≤ v) (h2 : v ≤ 9223372036854775807) : keyOf Tryd.prog 3 (.int .i64 v) = some (.int .i64 v) :=
  keyOf_int_mk Tryd.underlying3 (WalkArith.wf_i64 ⟨by omega, by omega⟩)
/-- The candidates among these literals. -/
def candO (bound ls : List Int) : List Int := (ls.map absI).filter fun v => !bound.contains v
theorem candO_snoc (bound ls : List Int) (l : Int) : candO bound (ls ++ [l]) = if bound.contains (absI l) = true then candO bound ls else candO bound ls ++ [absI l] := by
  unfold candO
  rw [List.map_append, List.filter_append, List.map_cons, List.map_nil]
  by_cases h : bound.contains (absI l) = true
  · rw [if_pos h]; simp; simpa using h
  · rw [if_neg h]; simp; simpa using h
theorem candO_len (bound ls : List Int) : (candO bound ls).length ≤ ls.length := by
  unfold candO
  refine Nat.le_trans (List.length_filter_le _ _) ?_
  rw [List.length_map]
  exact Nat.le_refl _
theorem flat_take (xss : List (List Int)) (k : Nat) (h : k < xss.length) : (xss.take (k + 1)).flatten = (xss.take k).flatten ++ xss.getD k [] := by
  rw [List.take_succ_eq_append_getElem h, List.flatten_append]; simp [List.getD, h]
theorem flat_len (xss : List (List Int)) (k : Nat) : (xss.take k).flatten.length ≤ xss.flatten.length := by
  have : xss.flatten = (xss.take k).flatten ++ (xss.drop k).flatten := by rw [← List.flatten_append, List.take_append_drop]
  rw [this, List.length_append]; omega
theorem vars_len (bs : List Blk) (k : Nat) : (varsB (bs.take k)).length ≤ (varsB bs).length := by
  have : varsB bs = varsB (bs.take k) ++ varsB (bs.drop k) := by
    unfold varsB
    rw [← List.flatMap_append, List.take_append_drop]
  rw [this, List.length_append]; omega
theorem getD_memI (l : List Int) (j : Nat) (h : j < l.length) : l.getD j 0 ∈ l := by simp [List.getD, h]
theorem cand_free (bs : List Blk) (xss : List (List Int)) : Lib.compact (srtL (candO (varsB bs) xss.flatten)) = freeL bs xss := free_eq bs xss

set_option maxHeartbeats 4000000 in
set_option maxRecDepth 100000 in
theorem free_any (vars : Int) (q : Option Addr) (d : Nat) (bs : List Blk) (a : Option Addr) (c : Nat) (xss : List (List Int)) (w : World) (hq : BRowsAt w q d bs) (hr : RowsAt w a c xss)
    (hint : ∀ xs ∈ xss, ∀ l ∈ xs, -9223372036854775807 ≤ l ∧ l ≤ 9223372036854775807) (hwb : ∀ v ∈ varsB bs, -9223372036854775808 ≤ v ∧ v ≤ 9223372036854775807) (hn1 : (varsB bs).length ≤ 1000000000) (hn2 : xss.flatten.length ≤ 1000000000) :
    Calls Tryd.prog 12 #[.agg #[.slice q bs.length d, .int .i64 vars, .slice a xss.length c]] w fun e w' => (∃ v, e = .returned v ∧ Row w' v (freeL bs xss)) ∧ Below w.heap.size w w' := by
  obtain ⟨hq1, hq2, hq3⟩ := hq
  obtain ⟨hr1, hr2, hr3⟩ := hr
  unfold maxLen at hq2 hr2
  have HQ3 := Lib.hid hq3; clear hq3
  have HR3 := Lib.hid hr3; clear hr3
  have HWB : Hid (∀ k j, k < bs.length → j < (bs.getD k blk0).2.length → -9223372036854775808 ≤ (bs.getD k blk0).2.getD j 0 ∧ (bs.getD k blk0).2.getD j 0 ≤ 9223372036854775807) := fun k j hk hj =>
    hwb _ ((mem_varsB bs _).2 ⟨k, hk, getD_memI _ j hj⟩)
  have HI : Hid (∀ k j, k < xss.length → j < (xss.getD k []).length → -9223372036854775807 ≤ (xss.getD k []).getD j 0 ∧ (xss.getD k []).getD j 0 ≤ 9223372036854775807) := fun k j hk hj =>
    hint (xss.getD k []) (by simp [List.getD, hk]) _ (getD_memI _ j hj)
  have HV1 : Hid (∀ k j met, k < bs.length → met = varsB (bs.take k) ++ (bs.getD k blk0).2.take j → met.length ≤ 1000000000) := fun k j met hk e => by
    have h1 := vars_len bs (k + 1)
    rw [varsB_take bs k hk, List.length_append] at h1
    rw [e, List.length_append, List.length_take]
    omega
  have HV2 := Lib.hid (fun k (hk : k < bs.length) => varsB_take bs k hk)
  have HF2 := Lib.hid (fun k (hk : k < xss.length) => flat_take xss k hk)
  have HF1 : Hid (∀ k j met cur, k < xss.length → cur = candO met ((xss.take k).flatten ++ (xss.getD k []).take j) → cur.length ≤ 1000000000) := fun k j met cur hk e => by
    have h1 := flat_len xss (k + 1)
    rw [flat_take xss k hk, List.length_append] at h1
    have h2 := candO_len met ((xss.take k).flatten ++ (xss.getD k []).take j)
    rw [List.length_append, List.length_take] at h2
    rw [e]
    omega
  have HE1 : Hid (varsB (bs.take bs.length) = varsB bs) := by rw [List.take_length]; rfl
  have HE2 : Hid ((xss.take xss.length).flatten = xss.flatten) := by rw [List.take_length]; rfl
  have HFR : Hid (∀ met cur, met = varsB bs → cur = candO met xss.flatten → Lib.compact (srtL cur) = freeL bs xss ∧ cur.length ≤ 1000000000) := fun met cur e1 e2 => by
    subst e1; subst e2
    exact ⟨cand_free bs xss, Nat.le_trans (candO_len _ _) hn2⟩
  have HBW : Hid (∀ W, Below (w.heap.size + 1) (w.alloc (.cells #[.slice q bs.length d, .int .i64 vars, .slice a xss.length c] 27)) W → Below w.heap.size w W ∧ W.cell? ⟨w.heap.size, 2, none⟩ = some (.slice a xss.length c)) := fun W hW =>
    ⟨((Below.refl _ w).alloc (Nat.le_refl _) _).trans (hW.mono (by omega)), (cells3 w W _ _ _ _ (by simpa using hW)).2.2⟩
  clear hwb hint hn1 hn2
  generalize hN : bs.length = n at *
  have HN := Lib.hid hN; clear hN
  generalize hM : xss.length = m at *
  have HM := Lib.hid hM; clear hM
  have hmm := @run_makeMap Tryd.prog
  go_enter Tryd.func12, Tryd.ntmps12
  go_wp2_with fail
  go_loopw [5, 7, 20] (fun _ _ i wr => ∃ (k : Nat) (met : List Int), k ≤ n ∧ i = .int .i64 k ∧ wr.ownsMap Tryd.prog 3 unitElem (w.heap.size + 1) met.length (setI met) ∧ Below (w.heap.size + 1) (w.alloc (.cells #[.slice q n d, .int .i64 vars, .slice a m c] 27)) wr ∧ w.heap.size + 2 ≤ wr.heap.size ∧ Hid (met = varsB (bs.take k))) (fun _ _ i _ => n - (intOf i).toNat)
  case atStart =>
    refine ⟨0, [], Nat.zero_le _, rfl, ?_, (Below.refl _ _).alloc (by simp) _, by simp, rfl⟩
    rw [setI_nil]
    have h := World.ownsMap_made (H := Unit) (w.alloc (.cells #[.slice q n d, .int .i64 vars, .slice a m c] 27)) Tryd.prog 3 unitElem
    simpa using h
  case round =>
    obtain ⟨k, met, hk, rfl, hown, hbr, hsz, HMET⟩ := hrel
    clear hmm
    obtain ⟨hbw, hx2⟩ := HBW.out _ hbr
    by_cases hlt : k < n
    · obtain ⟨b, off, ha, hbl, hc⟩ := HQ3.out.resolve_left (by omega)
      subst ha
      obtain ⟨f0, v, f1, hvr⟩ := hc k hlt
      clear hc hx2
      have f0' := (hbw.cell (p := ⟨b, off + k * 2, none⟩) hbl).trans f0
      have f1' := (hbw.cell (p := ⟨b, off + k * 2 + 1, none⟩) hbl).trans f1
      clear f0 f1
      have HWBK := Lib.hid (fun j => HWB.out k j hlt)
      have HV1K := Lib.hid (fun j met' => HV1.out k j met' hlt)
      have HV2K := Lib.hid (HV2.out k hlt)
      rw [← HMET.out] at HV1K HV2K
      generalize (bs.getD k blk0).1 = ex at *
      generalize (bs.getD k blk0).2 = ys at *
      obtain ⟨av, cv, rfl, hv5, hv6, hrv⟩ := hvr
      unfold maxLen at hv6
      have HRV := Lib.hid hrv; clear hrv
      generalize hml : ys.length = ml at *
      have HML := Lib.hid hml; clear hml
      have HX := Lib.hid (And.intro (hown.alloc (.cells #[.bool ex, .slice av ml cv] 58)) (hbr.alloc (Nat.le_trans (Nat.le_succ _) hsz) (.cells #[.bool ex, .slice av ml cv] 58)))
      clear hown hbr hbw
      go_wp2_with fail
      obtain ⟨ho0, hb0⟩ := HX.out
      go_loopw [7, 27] (fun _ i wr2 => ∃ (j : Nat) (met2 : List Int), j ≤ ml ∧ i = .int .i64 j ∧ wr2.ownsMap Tryd.prog 3 unitElem (w.heap.size + 1) met2.length (setI met2) ∧ Below (w.heap.size + 1) (w.alloc (.cells #[.slice (some ⟨b, off, none⟩) n d, .int .i64 vars, .slice a m c] 27)) wr2 ∧ w.heap.size + 2 ≤ wr2.heap.size ∧ Hid (met2 = met ++ ys.take j)) (fun _ i _ => ml - (intOf i).toNat)
      case atStart => exact ⟨0, met, Nat.zero_le _, rfl, ho0, hb0, by simp; omega, by simp [Hid]⟩
      case round =>
        obtain ⟨j, met2, hj, rfl, ho1, hb1, hsz1, HM2⟩ := hrel
        clear ho0 hb0
        obtain ⟨hbw1, _⟩ := HBW.out _ hb1
        by_cases hjl : j < ml
        · obtain ⟨b2, off2, ha2, hb2', hc2'⟩ := HRV.out.resolve_left (by have := HML.out; omega)
          subst ha2
          have hjy : j < ys.length := by rw [HML.out]; exact hjl
          have f2 := (hbw1.cell (p := ⟨b2, off2 + j, none⟩) hb2').trans (hc2' j (by first | exact hjl | exact hjy))
          clear hc2'
          obtain ⟨hv1, hv2⟩ := HWBK.out j (by first | exact hjl | exact hjy)
          have hbd := HV1K.out j met2 HM2.out
          have HM3 := Lib.hid (show met2 ++ [ys.getD j 0] = met ++ ys.take (j + 1) by rw [HM2.out, take_snoc ys j hjy, List.append_assoc])
          clear hjy
          generalize ys.getD j 0 = x at *
          have hkey := keyI x hv1 hv2
          have hlen : (met2 ++ [x]).length = met2.length + 1 := by simp
          have HLE := Lib.hid hlen; clear hlen
          have HPUT := Lib.hid (setI_snoc met2 x)
          go_wp2_with (at_mapUpdate; refine wpList_mapUpdate_own _ rfl _ _ _ 68 rfl 3 69 lawI Tryd.underlying68 (unitElem (H := Unit)) (w.heap.size + 1) met2.length (setI met2) rfl ho1 (by unfold maxLen; omega) _ _ _ rfl rfl hkey _ [] unitElem_mk ?_; intro w1 ho2 hgrow1)
          go_roundw
          case rel =>
            refine ⟨j + 1, met2 ++ [x], by omega, by go_num, ?_, hb1.grown hgrow1 (by omega) (fun k hk => by cases hk; exact Nat.le_refl _), Nat.le_trans hsz1 hgrow1.size, HM3.out⟩
            rw [HLE.out, HPUT.out]
            exact ho2
          case measure => simp [intOf]; omega
        · have hjm : j = ml := by omega
          subst hjm
          have HM3 := Lib.hid (show met2 = varsB (bs.take (k + 1)) by rw [HM2.out, HV2K.out, ← HML.out, List.take_length])
          go_wp2_with fail
          go_roundw
          case rel => exact ⟨k + 1, met2, by omega, by go_num, ho1, hb1, hsz1, HM3.out⟩
          case measure => simp [intOf]; omega
    · have hkn : k = n := by omega
      obtain ⟨k', hkk⟩ : ∃ k', k' = k := ⟨_, rfl⟩
      subst hkn
      subst hkk
      have HMT := Lib.hid (HMET.out.trans HE1.out)
      have HNM := Lib.hid (show ∃ N, wr.ownsMap Tryd.prog 3 unitElem (w.heap.size + 1) N (setI met) from ⟨_, hown⟩)
      clear hown hbw HMET hlt hk
      obtain ⟨N, hown⟩ := HNM.out
      go_wp2_with fail
      have hs0 := hsz
      go_loopw [8, 10, 12, 13, 14, 15, 40] (fun o _ _ _ _ _ i wr2 => ∃ (k : Nat) (cur : List Int), k ≤ m ∧ i = .int .i64 k ∧ wr2.ownsMap Tryd.prog 3 unitElem (w.heap.size + 1) N (setI met) ∧ wr2.ownsRow (w.heap.size + 2) 3 1 o cur.length (cur.map (Value.int .i64)) ∧ Below (w.heap.size + 1) (w.alloc (.cells #[.slice q k' d, .int .i64 vars, .slice a m c] 27)) wr2 ∧ w.heap.size + 2 ≤ wr2.heap.size ∧ Hid (cur = candO met (xss.take k).flatten)) (fun _ _ _ _ _ _ i _ => m - (intOf i).toNat)
      case atStart => exact ⟨0, [], Nat.zero_le _, rfl, hown, ⟨rfl, .inl ⟨rfl, rfl⟩⟩, hbr, hsz, rfl⟩
      case round =>
        obtain ⟨k, cur, hk, rfl, ho1, hrow, hb1, hsz1, HCUR⟩ := hrel
        clear hown hbr hsz hs0 HNM hx2
        obtain ⟨hbw1, _⟩ := HBW.out _ hb1
        by_cases hlt : k < m
        · obtain ⟨b, off, ha, hbl, hc⟩ := HR3.out.resolve_left (by omega)
          subst ha
          obtain ⟨v, f1, hvr⟩ := hc k hlt
          clear hc
          have f1' := (hbw1.cell (p := ⟨b, off + k, none⟩) hbl).trans f1
          clear f1
          have HIK := Lib.hid (fun j => HI.out k j hlt)
          have HF1K := Lib.hid (fun j met' cur' => HF1.out k j met' cur' hlt)
          have HF2K := Lib.hid (HF2.out k hlt)
          generalize xss.getD k [] = ys at *
          obtain ⟨av, cv, rfl, hv5, hv6, hrv⟩ := hvr
          unfold maxLen at hv6
          have HRV := Lib.hid hrv; clear hrv
          generalize hml : ys.length = ml at *
          have HML := Lib.hid hml; clear hml
          obtain ⟨ao, no, co, rfl⟩ := slice_of hrow
          have HX := Lib.hid (And.intro ho1 (And.intro hrow hb1))
          clear ho1 hrow hb1
          go_wp2_with fail
          obtain ⟨ho0, hr0, hb0⟩ := HX.out
          go_loopw [8, 12, 13, 14, 15, 46] (fun o _ _ _ _ i wr2 => ∃ (j : Nat) (cur2 : List Int), j ≤ ml ∧ i = .int .i64 j ∧ wr2.ownsMap Tryd.prog 3 unitElem (w.heap.size + 1) N (setI met) ∧ wr2.ownsRow (w.heap.size + 2) 3 1 o cur2.length (cur2.map (Value.int .i64)) ∧ Below (w.heap.size + 1) (w.alloc (.cells #[.slice q k' d, .int .i64 vars, .slice (some ⟨b, off, none⟩) m c] 27)) wr2 ∧ w.heap.size + 2 ≤ wr2.heap.size ∧ Hid (cur2 = candO met ((xss.take k).flatten ++ ys.take j))) (fun _ _ _ _ _ i _ => ml - (intOf i).toNat)
          case atStart => exact ⟨0, cur, Nat.zero_le _, rfl, ho0, hr0, hb0, hsz1, by rw [List.take_zero, List.append_nil]; exact HCUR.out⟩
          case round =>
            obtain ⟨j, cur2, hj, rfl, ho2, hrow2, hb2, hsz2, HC2⟩ := hrel
            clear ho0 hr0 hb0 hsz1 HX
            obtain ⟨hbw2, _⟩ := HBW.out _ hb2
            by_cases hjl : j < ml
            · obtain ⟨b2, off2, ha2, hbl2, hc2'⟩ := HRV.out.resolve_left (by have := HML.out; omega)
              subst ha2
              have hjy : j < ys.length := by rw [HML.out]; exact hjl
              have f2 := (hbw2.cell (p := ⟨b2, off2 + j, none⟩) hbl2).trans (hc2' j (by first | exact hjl | exact hjy))
              clear hc2'
              obtain ⟨hv1, hv2⟩ := HIK.out j (by first | exact hjl | exact hjy)
              have hbd := HF1K.out j met cur2 HC2.out
              have HC3 := Lib.hid (candO_snoc met ((xss.take k).flatten ++ ys.take j) (ys.getD j 0))
              have HTK := Lib.hid (show (xss.take k).flatten ++ ys.take (j + 1) = (xss.take k).flatten ++ ys.take j ++ [ys.getD j 0] by rw [take_snoc ys j hjy, List.append_assoc])
              clear hjy
              generalize ys.getD j 0 = x at *
              have HV := Lib.hid (fun W => var_any x W hv1 hv2)
              have hab : 0 ≤ absI x ∧ absI x ≤ 9223372036854775807 := by
                unfold absI
                split <;> omega
              have hkey := keyI (absI x) (by omega) hab.2
              obtain ⟨r, hr⟩ : ∃ r, met.contains (absI x) = r := ⟨_, rfl⟩
              have hh : Maps.has (setI met) (Lit.int .i64 (absI x)) = r := (setI_has _ _).trans hr
              rw [hr, ← HTK.out, ← HC2.out] at HC3
              clear hr HTK
              generalize absI x = y at *
              obtain ⟨ao2, no2, co2, rfl⟩ := slice_of hrow2
              have hrx := own_keep hrow2 ((Below.refl _ _).alloc (Nat.le_refl _) (.cells #[] 69))
              have HLE := Lib.hid (show (cur2 ++ [y]).length = cur2.length + 1 by simp)
              cases r with
              | true =>
                have HC4 := Lib.hid (HC3.out.trans (if_pos rfl))
                clear HC3
                have HRX := Lib.hid hrx
                clear hrx hrow2
                go_wp2_with (first
                  | (go_at_call 33; refine (HV.out _).mono ?_; rintro e w' ⟨rfl, rfl⟩)
                  | (at_lookup; refine wpList_lookup_own_unit _ rfl _ _ 68 rfl 3 69 lawI Tryd.underlying68 (zeroU _) (w.heap.size + 1) N (setI met) rfl ho2 _ _ rfl hkey ?_))
                go_roundw
                case rel => exact ⟨j + 1, cur2, by omega, by go_num, ho2.alloc _, HRX.out, hb2.alloc (by omega) _, by simp; omega, HC4.out.symm⟩
                case measure => simp [intOf]; omega
              | false =>
                have HC4 := Lib.hid (HC3.out.trans (if_neg (by simp)))
                clear HC3
                go_wp2_with (first
                  | (go_at_call 33; refine (HV.out _).mono ?_; rintro e w' ⟨rfl, rfl⟩)
                  | (at_lookup; refine wpList_lookup_own_unit _ rfl _ _ 68 rfl 3 69 lawI Tryd.underlying68 (zeroU _) (w.heap.size + 1) N (setI met) rfl ho2 _ _ rfl hkey ?_)
                  | (at_builtin; refine wpList_app1 rfl _ _ rfl _ (w.heap.size + 2) _ _ cur2 y hrx (by simp; omega) (by omega) rfl (by rw [World.size_alloc]; rfl) ?_; intro v' w3 hown3 hap3))
                go_roundw
                case rel =>
                  refine ⟨j + 1, cur2 ++ [y], by omega, by go_num, ownsMap_block (ho2.alloc (.cells #[] 69)) (hap3.below.block _ (by omega)), by rw [HLE.out]; exact hown3, (hb2.alloc (by omega) _).trans (hap3.below.mono (by omega)), ?_, HC4.out.symm⟩
                  have := hap3.below.size
                  simp at this
                  omega
                case measure => simp [intOf]; omega
            · have hjm : j = ml := by omega
              subst hjm
              have HC3 := Lib.hid (show cur2 = candO met (xss.take (k + 1)).flatten by rw [HC2.out, HF2K.out, ← HML.out, List.take_length])
              go_wp2_with fail
              go_roundw
              case rel => exact ⟨k + 1, cur2, by omega, by go_num, ho2, hrow2, hb2, hsz2, HC3.out⟩
              case measure => simp [intOf]; omega
        · have hkm : k = m := by omega
          subst hkm
          obtain ⟨hfr, hcl⟩ := HFR.out met cur HMT.out (by rw [HCUR.out, HE2.out])
          have HFE := Lib.hid hfr; clear hfr
          have HSO := Lib.hid (sort_own _ cur _ (w.heap.size + 2) hrow hcl)
          have HCO := Lib.hid (fun o W (h : W.ownsRow (w.heap.size + 2) 3 1 o (srtL cur).length ((srtL cur).map (Value.int .i64))) => compact_own o (srtL cur) W (w.heap.size + 2) h (by rw [srt_len]; exact hcl))
          have HSL := Lib.hid (srt_len cur)
          obtain ⟨ao, no, co, rfl⟩ := slice_of hrow
          clear hrow ho1
          go_wp2_with (first
            | (go_at_call 34; refine HSO.out.mono ?_; rintro e w3 ⟨rfl, ho3, hb3⟩)
            | (go_at_call 35; refine (HCO.out _ _ (by rw [HSL.out]; exact ho3)).mono ?_; rintro e w4 ⟨v4, rfl, ho4, hb4⟩))
          go_ret
          refine ⟨⟨_, rfl, ?_⟩, (hbw1.trans (hb3.mono (by omega))).trans (hb4.mono (by omega))⟩
          rw [← HFE.out]
          exact own_row ho4
end Go.Proofs.YtcodmijphejfdaaDoor
