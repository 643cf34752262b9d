/- learn.Final's own memory ('FnB': the set of met variables, the decisions, what is still to be looked at), and its contract. Conditions: a prop as PrS has it, of at most ten thousand clauses; the literal is false. -/
import Derived.Test.YtjlmooimdogmjaaLg48
import Derived.Test.YtjlmooimdogmjaaLg36
import Derived.Test.YtjlmooimdogmjaaLg37
import Derived.Deep.LoopGhost
set_option linter.unusedVariables false
set_option linter.unusedSimpArgs false
set_option linter.unusedVariables false
set_option linter.unusedSimpArgs false
namespace Go.Proofs.Ytjlmooimdogmjaa
open Go.RowKit Go.Maps

structure FnB (B : Nat) (T : Nat → Prop) (W : World) (mb : Nat) (dv tv : Value) (zs ds ts : List Int) : Prop where
  mp : W.ownsMap Try.prog 3 unitElem mb zs.length (setI zs)
  mB : B ≤ mb
  BW : B ≤ W.heap.size
  rd : W.ownsRow B 3 1 dv ds.length (ds.map (Value.int .i64))
  rt : W.ownsRow B 3 1 tv ts.length (ts.map (Value.int .i64))
  nd : ∀ k, dv.ownBlock = some k → k ≠ mb
  nt : ∀ k, tv.ownBlock = some k → k ≠ mb ∧ dv.ownBlock ≠ some k
  av : ∀ i, T i → i < W.heap.size ∧ i ≠ mb ∧ dv.ownBlock ≠ some i ∧ tv.ownBlock ≠ some i
section
variable {B : Nat} {T : Nat → Prop} {W W' : World} {mb : Nat} {dv tv : Value} {zs ds ts : List Int}
theorem FnB.keep (h : FnB B T W mb dv tv zs ds ts) (hb : Below W.heap.size W W') : FnB B T W' mb dv tv zs ds ts :=
  ⟨ownsMap_block h.mp (hb.block mb h.mp.lt), h.mB, Nat.le_trans h.BW hb.size, own_keep h.rd hb, own_keep h.rt hb, h.nd, h.nt, fun i hi => ⟨Nat.lt_of_lt_of_le (h.av i hi).1 hb.size, (h.av i hi).2⟩⟩
theorem FnB.more {U : Nat → Prop} (h : FnB B T W mb dv tv zs ds ts) (hb : Below W.heap.size W W') (hU : ∀ i, U i → T i ∨ NewB W W' i) : FnB B U W' mb dv tv zs ds ts := by
  have k := h.keep hb
  refine { k with av := fun i hi => ?_ }
  rcases hU i hi with hi | hi
  · exact k.av i hi
  · refine ⟨hi.2, fun e => ?_, fun e => ?_, fun e => ?_⟩
    · have := h.mp.lt; have := hi.1; omega
    · have := (h.rd.lt i e).2; have := hi.1; omega
    · have := (h.rt.lt i e).2; have := hi.1; omega
theorem FnB.less {U : Nat → Prop} (h : FnB B T W mb dv tv zs ds ts) (hU : ∀ i, U i → T i) : FnB B U W mb dv tv zs ds ts := { h with av := fun i hi => h.av i (hU i hi) }
theorem FnB.setMap {x : Int} (h : FnB B T W mb dv tv zs ds ts) (hg : W.grownBy W' (some mb)) (hm : W'.ownsMap Try.prog 3 unitElem mb (zs.length + 1) ((setI zs).put (.int .i64 x) (.agg []))) : FnB B T W' mb dv tv (zs ++ [x]) ds ts ∧ Below B W W' := by
  have hc : Chg [mb] W W' := Chg.grown hg (by simp)
  exact ⟨⟨by rw [setI_snoc, List.length_append]; exact hm, h.mB, Nat.le_trans h.BW hc.size, own_chg h.rd hc fun k e hk => by simp at hk; exact h.nd k e hk, own_chg h.rt hc fun k e hk => by simp at hk; exact (h.nt k e).1 hk, h.nd, h.nt, fun i hi => ⟨Nat.lt_of_lt_of_le (h.av i hi).1 hc.size, (h.av i hi).2⟩⟩, hc.below (Below.refl _ _) h.BW (by simp; exact h.mB)⟩
theorem FnB.appD {dv' : Value} {x : Int} (h : FnB B T W mb dv tv zs ds ts) (ha : App B W W' dv dv') (ho : W'.ownsRow B 3 1 dv' (ds.length + 1) ((ds ++ [x]).map (Value.int .i64))) : FnB B T W' mb dv' tv zs (ds ++ [x]) ts := by
  have hc1 : Chg (rowB dv) W W' := Chg.app ha fun k hk => mem_rowB.2 hk
  have hn : ∀ k, dv'.ownBlock = some k → dv.ownBlock = some k ∨ W.heap.size ≤ k := fun k hk => by
    rcases ha.blk with e | ⟨q, e, hq⟩
    · exact .inl (e ▸ hk)
    · rw [e] at hk; injection hk with hk; subst hk; exact .inr hq
  refine ⟨ownsMap_block h.mp (hc1.block mb h.mp.lt fun hm => h.nd mb (mem_rowB.1 hm) rfl), h.mB, Nat.le_trans h.BW hc1.size, by rw [List.length_append]; exact ho, own_chg h.rt hc1 fun k e hm => (h.nt k e).2 (mem_rowB.1 hm), fun k hk => ?_, fun k hk => ⟨(h.nt k hk).1, fun e => ?_⟩, fun i hi => ⟨Nat.lt_of_lt_of_le (h.av i hi).1 hc1.size, (h.av i hi).2.1, fun e => ?_, (h.av i hi).2.2.2⟩⟩
  · rcases hn k hk with e | hge
    · exact h.nd k e
    · have := h.mp.lt; omega
  · rcases hn k e with e | hge
    · exact (h.nt k hk).2 e
    · have := (h.rt.lt k hk).2; omega
  · rcases hn i e with e | hge
    · exact (h.av i hi).2.2.1 e
    · have := (h.av i hi).1; omega
theorem FnB.appT {tv' : Value} {x : Int} (h : FnB B T W mb dv tv zs ds ts) (ha : App B W W' tv tv') (ho : W'.ownsRow B 3 1 tv' (ts.length + 1) ((ts ++ [x]).map (Value.int .i64))) : FnB B T W' mb dv tv' zs ds (ts ++ [x]) ∧ Kp T W W' := by
  have hc1 : Chg (rowB tv) W W' := Chg.app ha fun k hk => mem_rowB.2 hk
  have hn : ∀ k, tv'.ownBlock = some k → tv.ownBlock = some k ∨ W.heap.size ≤ k := fun k hk => by
    rcases ha.blk with e | ⟨q, e, hq⟩
    · exact .inl (e ▸ hk)
    · rw [e] at hk; injection hk with hk; subst hk; exact .inr hq
  refine ⟨⟨ownsMap_block h.mp (hc1.block mb h.mp.lt fun hm => (h.nt mb (mem_rowB.1 hm)).1 rfl), h.mB, Nat.le_trans h.BW hc1.size, own_chg h.rd hc1 fun k e hm => (h.nt k (mem_rowB.1 hm)).2 e, by rw [List.length_append]; exact ho, h.nd, fun k hk => ?_, fun i hi => ⟨Nat.lt_of_lt_of_le (h.av i hi).1 hc1.size, (h.av i hi).2.1, (h.av i hi).2.2.1, fun e => ?_⟩⟩, hc1.size, fun i hi => hc1.block i (h.av i hi).1 fun hm => (h.av i hi).2.2.2 (mem_rowB.1 hm)⟩
  · rcases hn k hk with e | hge
    · exact h.nt k e
    · exact ⟨by have := h.mp.lt; omega, fun e => by have := (h.rd.lt k e).2; omega⟩
  · rcases hn i e with e | hge
    · exact (h.av i hi).2.2.2 e
    · have := (h.av i hi).1; omega
/-- The last one taken off. -/
theorem FnB.pop {g tc : Nat} {x : Int} (h : FnB B T W mb dv (.slice (some ⟨g, 0, none⟩) (ts.length + 1) tc) zs ds (ts ++ [x])) : FnB B T W mb dv (.slice (some ⟨g, 0, none⟩) ts.length tc) zs ds ts := by
  refine ⟨h.mp, h.mB, h.BW, h.rd, ?_, h.nd, fun k hk => h.nt k hk, fun i hi => h.av i hi⟩
  have := h.rt
  rw [List.length_append, List.map_append] at this
  exact own_less this (by simp)
end

set_option maxRecDepth 8000 in
set_option maxHeartbeats 8000000 in
theorem final_any {v : Value} {S : List Nat} {p : Pr} (w : World) (hs : PrS w v S p) (hcl : p.cl.length ≤ 10000) (l : Int) (hl : -l ∈ p.tr) :
    Calls Try.prog 24 #[v, .int .i64 l] w fun e w' => ∃ u ds met, e = .returned u ∧ Row w' u ds ∧ FnI p (-l) [] met ds ∧ Below w.heap.size w w' := by
  have hw := hs.wf
  have HW := Lib.hid hw
  have HCL := Lib.hid hcl
  have HPV : Hid (∀ V, Below w.heap.size w V → PrS V v S p) := fun V hV => hs.below hV
  have hlb := hw.rgt _ hl
  rw [plc_negate] at hlb
  have hn := hw.n
  have hla := plc_absI l
  have hlc : absI l = l ∨ absI l = -l := by unfold absI; split <;> simp
  have hl4 : -4000 ≤ l ∧ l ≤ 4000 := by omega
  have HVV := Lib.hid (pval_any w hs l (by omega) (by omega))
  rw [hw.val_false.2 hl] at HVV
  have HI0 := Lib.hid (FnI.start hw hl)
  have HTL := Lib.hid hl
  obtain ⟨q, rfl⟩ := hs.ptr
  have hmm := @run_makeMap Try.prog
  clear hs hw hcl hlb hn hla hlc hl
  obtain ⟨hl1, hl2⟩ := hl4
  go_enter Try.func24, Try.ntmps24
  go_wp2_with fail
  refine HVV.out.mono ?_
  rintro e w' ⟨rfl, rfl⟩
  go_wp2_with fail
  clear hmm HVV
  have hs1 : (w.alloc (.map #[] 0)).heap.size = w.heap.size + 1 := Array.size_push _
  have hs2 : ((w.alloc (.map #[] 0)).alloc (.cells #[.int .i64 (-l)] 3)).heap.size = w.heap.size + 2 := by
    show ((w.alloc (.map #[] 0)).heap.push _).size = _
    rw [Array.size_push, hs1]
  have HB0 : Hid (FnB w.heap.size (fun _ => False) ((w.alloc (.map #[] 0)).alloc (.cells #[.int .i64 (-l)] 3)) w.heap.size (.slice none 0 0) (.slice (some ⟨w.heap.size + 1, 0, none⟩) 1 1) [] [] [-l]) := by
    refine ⟨?_, Nat.le_refl _, by rw [hs2]; omega, World.ownsRow_nil _ _ _ _, ?_, (fun k e => by cases e), (fun k e => ⟨?_, (by intro e2; cases e2)⟩), (fun i hi => hi.elim)⟩
    · rw [setI_nil]
      have h := (World.ownsMap_made (H := Unit) w Try.prog 3 unitElem).alloc (.cells #[.int .i64 (-l)] 3)
      exact h
    · have h := heap_alloc_new (w.alloc (.map #[] 0)) (.cells #[.int .i64 (-l)] 3)
      rw [hs1] at h
      exact ⟨rfl, .inr ⟨w.heap.size + 1, 1, _, rfl, by omega, h, Nat.le_refl _, by decide, rfl, rfl⟩⟩
    · have : k = w.heap.size + 1 := by
        have e' : some (w.heap.size + 1) = some k := e
        exact (Option.some.inj e').symm
      omega
  have HBW0 : Hid (Below w.heap.size w ((w.alloc (.map #[] 0)).alloc (.cells #[.int .i64 (-l)] 3))) := ((Below.refl _ _).alloc (Nat.le_refl _) _).alloc (by rw [hs1]; omega) _
  clear hs1 hs2
  generalize (w.alloc (.map #[] 0)).alloc (.cells #[.int .i64 (-l)] 3) = w1 at *
  have HPB : Hid (∀ V, Below w.heap.size w V → PrS V (.pointer (some ⟨q, 0, none⟩)) S p) := HPV.out
  generalize hBe : w.heap.size = B at *
  have HBE := Lib.hid hBe
  clear hBe HPV
  have hms0 : 4001 * 20000 + 1 = (4001 - ([] : List Int).length) * 20000 + [-l].length := rfl
  go_loopg [5, 7, 8, 9, 10, 11, 12, 14] (4001 * 20000 + 1) (fun gh dv tv _ _ _ _ _ _ W => ∃ zs ds ts : List Int, FnB B (fun _ => False) W B dv tv zs ds ts ∧ FnI p (-l) ts zs ds ∧ Below B w W ∧ ts.length ≤ zs.length * 10000 + 1 ∧ ds.length ≤ zs.length ∧ gh = (4001 - zs.length) * 20000 + ts.length)
  case atStart => exact ⟨[], [], [-l], HB0.out, HI0.out, HBW0.out, by simp, by simp, hms0⟩
  case round =>
    obtain ⟨zs, ds, ts, hB, hI, hbw, htl, hdz, rfl⟩ := hrel
    clear HB0 HI0 HBW0 hms0
    have HB := Lib.hid hB
    have HI := Lib.hid hI
    have HBW := Lib.hid hbw
    have hzl := hI.len HW.out
    obtain ⟨da, dc, rfl, hd1, hd2⟩ := own_shape hB.rd
    obtain ⟨ta, tc, rfl, ht1, ht2⟩ := own_shape hB.rt
    unfold maxLen at hd2 ht2
    clear hB hI hbw
    by_cases hts : ts = []
    · as_aux_lemma =>
      subst hts
      have HB1 := Lib.hid HB.out
      go_wp2_with fail
      go_ret
      exact ⟨_, ds, zs, rfl, own_row HB1.out.rd, HI.out, by rw [HBE.out]; exact HBW.out⟩
    · obtain ⟨rest, last, rfl⟩ : ∃ rest last, ts = rest ++ [last] := ⟨ts.dropLast, ts.getLast hts, (List.dropLast_concat_getLast hts).symm⟩
      clear hts
      obtain ⟨g, cap, e⟩ := own_at HB.out.rt (by simp)
      have hlen : (rest ++ [last]).length = rest.length + 1 := by simp
      rw [hlen] at e HB ht1 ⊢
      injection e with e1 e2 e3
      subst e1; subst e3
      clear e2
      have HB1 : Hid (FnB B (fun _ => False) wr B (.slice da ds.length dc) (.slice (some ⟨g, 0, none⟩) (rest.length + 1) tc) zs ds (rest ++ [last])) := HB.out
      have y0 : wr.cell? ⟨g, rest.length, none⟩ = some (.int .i64 last) := by
        have h := HB1.out.rt
        rw [hlen] at h
        exact own_cell h (by rw [List.map_append, List.getElem?_append_right (by simp)]; simp)
      have HB2 := Lib.hid HB1.out.pop
      obtain ⟨htd1, i, hi, hiv⟩ := HI.out.td last (by simp)
      have hbd := HW.out.tr_bd hi
      have hpl : (plc last : Int) = absI last := plc_absI last
      have hvr : absI last = vrI p i := by rw [hiv, hpl]
      obtain ⟨_, _, hv1, hv2⟩ := hbd
      rw [← hvr] at hv1 hv2
      have hlb : -4000 ≤ last ∧ last ≤ 4000 := by
        have : absI last = last ∨ absI last = -last := by unfold absI; split <;> simp
        omega
      have HVA := Lib.hid (fun V => var_any last V (by omega) (by omega))
      have hkey := keyI (absI last) (by omega) (by omega)
      have HLV : Hid (∀ V, Below B w V → Calls Try.prog 12 #[.pointer (some ⟨q, 0, none⟩), .int .i64 (absI last)] V fun e w' => e = .returned (.int .i64 (levP p (absI last))) ∧ V = w') := fun V hV => plev_any V (HPB.out V hV) _ (by omega) (by omega)
      have HRV : Hid (∀ V, Below B w V → Calls Try.prog 52 #[.pointer (some ⟨q, 0, none⟩), .int .i64 (absI last)] V fun e w' => e = .returned (.int .i64 (reaP p (absI last))) ∧ V = w') := fun V hV => prea_any V (HPB.out V hV) _ (by omega) (by omega)
      have hmp := HB2.out.mp
      have hBW := HB2.out.BW
      have hK1 : (rest.length : Int) + 1 ≤ (tc : Int) := by omega
      have hK0 : (0 : Int) ≤ (rest.length : Int) := by omega
      have hKl : rest.length ≤ zs.length * 10000 := by rw [hlen] at htl; omega
      clear htl
      clear hlen htd1 hi hiv hvr HB HB1
      generalize hrl : rest.length = K at *
      have HRL := Lib.hid hrl
      clear hrl
      by_cases hin : absI last ∈ zs
      · as_aux_lemma =>
        have hh : Maps.has (setI zs) (Lit.int .i64 (absI last)) = true := (setI_has _ _).trans (List.contains_iff_mem.2 hin)
        have HIP := Lib.hid (HI.out.pass HW.out (.inl (by rw [hpl]; exact hin)))
        generalize absI last = al at *
        have HBA : Hid (Below B wr (wr.alloc (.cells #[] 86))) := (Below.refl _ _).alloc hBW _
        clear hin hpl
        go_wp2_with (first
          | (go_at_call 41; refine (HVA.out _).mono ?_; rintro e w' ⟨rfl, rfl⟩)
          | (at_lookup; refine wpList_lookup_own_unit _ rfl _ _ 58 rfl 3 86 lawI Try.underlying58 (zeroU _) B zs.length (setI zs) rfl hmp _ _ rfl hkey ?_))
        go_roundg ((4001 - zs.length) * 20000 + K)
        case rel => exact ⟨zs, ds, rest, HB2.out.keep ((Below.refl _ _).alloc (Nat.le_refl _) _), HIP.out, HBW.out.trans HBA.out, by have := HRL.out; omega, hdz, by have := HRL.out; omega⟩
        case measure => have := HRL.out; simp; omega
      · have hh : Maps.has (setI zs) (Lit.int .i64 (absI last)) = false := (setI_has _ _).trans (by rw [Bool.eq_false_iff]; exact fun h => hin (List.contains_iff_mem.1 h))
        have hnin : (plc last : Int) ∉ zs := by rw [hpl]; exact hin
        have HA1 : Hid (FnB B (fun _ => False) (wr.alloc (.cells #[] 86)) B (.slice da ds.length dc) (.slice (some ⟨g, 0, none⟩) K tc) zs ds rest) := HB2.out.keep ((Below.refl _ _).alloc (Nat.le_refl _) _)
        have hm1 := HA1.out.mp
        have HBA : Hid (Below B w (wr.alloc (.cells #[] 86))) := HBW.out.trans ((Below.refl _ _).alloc hBW _)
        have HLA := Lib.hid (HLV.out _ HBA.out)
        by_cases hz : levP p (absI last) = 0
        · as_aux_lemma =>
          have HIP := Lib.hid (HI.out.pass HW.out (.inr (by rw [hpl]; exact hz)))
          have b1 : ((0 : Int) == 0) = true := rfl
          rw [hz] at HLA
          generalize absI last = al at *
          clear hin hpl hz hnin
          go_wp2_with (first
            | (go_at_call 41; refine (HVA.out _).mono ?_; rintro e w' ⟨rfl, rfl⟩)
            | (at_lookup; refine wpList_lookup_own_unit _ rfl _ _ 58 rfl 3 86 lawI Try.underlying58 (zeroU _) B zs.length (setI zs) rfl hmp _ _ rfl hkey ?_)
            | (go_at_call 12; refine HLA.out.mono ?_; rintro e w' ⟨rfl, rfl⟩))
          go_roundg ((4001 - zs.length) * 20000 + K)
          case rel => exact ⟨zs, ds, rest, HA1.out, HIP.out, HBA.out, by have := HRL.out; omega, hdz, by have := HRL.out; omega⟩
          case measure => have := HRL.out; simp; omega
        · have b1 : (levP p (absI last) == 0) = false := beq_eq_false_iff_ne.2 hz
          have hzp : levP p (plc last : Int) ≠ 0 := by rw [hpl]; exact hz
          by_cases hr : reaP p (absI last) = -1
          · as_aux_lemma =>
            obtain ⟨hID, hlt⟩ := HI.out.dec HW.out hnin hzp (by rw [hpl]; exact hr)
            have HID := Lib.hid hID
            rw [hr] at HRV
            clear hID hlt hr
            generalize hal : absI last = al at *
            have HAL := Lib.hid hal
            clear hal hin hz hzp hnin
            go_upto_region 13 with (first
              | (go_at_call 41; refine (HVA.out _).mono ?_; rintro e w' ⟨rfl, rfl⟩)
              | (at_lookup; refine wpList_lookup_own_unit _ rfl _ _ 58 rfl 3 86 lawI Try.underlying58 (zeroU _) B zs.length (setI zs) rfl hmp _ _ rfl hkey ?_)
              | (go_at_call 12; refine HLA.out.mono ?_; rintro e w' ⟨rfl, rfl⟩)
              | (at_mapUpdate; refine wpList_mapUpdate_own _ rfl _ _ _ 58 rfl 3 86 lawI Try.underlying58 (unitElem (H := Unit)) B zs.length (setI zs) rfl hm1 (by unfold maxLen; omega) _ _ _ rfl rfl hkey _ [] unitElem_mk ?_; intro w2 ho2 hgrow2))
            obtain ⟨hA2, hb2⟩ := HA1.out.setMap hgrow2 ho2
            have HA2 := Lib.hid hA2
            have HBW2 : Hid (Below B w w2) := HBA.out.trans hb2
            have HR2 := Lib.hid (HRV.out _ HBW2.out)
            clear hA2 hb2 ho2 hgrow2 hm1 hmp hh HA1 HBA HB2 HLA HLV HRV
            have HPL := Lib.hid hpl
            clear hpl
            have hBW2 := HA2.out.BW
            have HRD := Lib.hid HA2.out.rd
            have HCV : Hid (∀ V, Below B w V → Calls Try.prog 31 #[.pointer (some ⟨q, 0, none⟩), .int .i64 (-1)] V fun e w' => ∃ u c, e = .returned u ∧ RowT w' (NewB V w') u c ∧ c = [] ∧ Below V.heap.size V w') := fun V hV => by
              refine (pclsT_any V (HPB.out V hV) (-1) (by decide) (by decide)).mono ?_
              rintro e w' ⟨u, d, e1, e2, e3, e4⟩
              rw [if_pos (by decide)] at e3
              exact ⟨u, d, e1, e2, List.perm_nil.1 e3, e4⟩
            go_wp2_with fail
            refine HR2.out.mono ?_
            rintro e w' ⟨rfl, rfl⟩
            go_wp2_with (at_builtin; refine wpList_app1 rfl _ _ rfl w2 B _ ds.length ds last HRD.out hBW2 (by omega) rfl rfl ?_; intro dv3 w3 ho3 ha3; obtain ⟨da3, dc3, rfl, hd31, hd32⟩ := own_shape ho3)
            have HA3 := Lib.hid (HA2.out.appD ha3 ho3)
            have HBW3 : Hid (Below B w w3) := HBW2.out.trans ha3.below
            refine (HCV.out _ HBW3.out).mono ?_
            rintro e w4 ⟨u, c, rfl, hu, rfl, hb4⟩
            obtain ⟨ua, uc, rfl, _⟩ := hu
            have HA4 := Lib.hid (HA3.out.keep hb4)
            have HBW4 : Hid (Below B w w4) := HBW3.out.trans (hb4.mono HA3.out.BW)
            clear ho3 ha3 hb4 HA3 HBW3 HCV
            go_wp2_with fail
            go_loopw [7, 14, 68] (fun tv _ iv V => tv = .slice (some ⟨g, 0, none⟩) K tc ∧ iv = .int .i64 0 ∧ V = w4) (fun _ _ _ _ => 0)
            case atStart => exact ⟨rfl, rfl, rfl⟩
            case round =>
              obtain ⟨rfl, rfl, rfl⟩ := hrel
              go_wp2_with fail
              go_roundg ((4001 - (zs ++ [al]).length) * 20000 + K)
              case rel => exact ⟨zs ++ [al], ds ++ [last], rest, HA4.out, by rw [← HPL.out]; exact HID.out, HBW4.out, by have := HRL.out; simp only [List.length_append, List.length_singleton]; omega, by simp only [List.length_append, List.length_singleton]; omega, by have := HRL.out; omega⟩
              case measure =>
                have h1 := HID.out.len HW.out
                have h2 := HRL.out
                simp at h1 ⊢
                omega
          · as_aux_lemma =>
            obtain ⟨kk, cc, hre, hcc, hdd⟩ := HI.out.unit HW.out hnin hzp (by rw [hpl]; exact hr)
            have HDD := Lib.hid hdd
            rw [hpl] at hre
            rw [hre] at HRV
            have hkl : kk < p.cl.length := by
              rcases Nat.lt_or_ge kk p.cl.length with h | h
              · exact h
              · simp [List.getD, List.getElem?_eq_none h] at hcc
            have hkl2 := HCL.out
            have HCC := Lib.hid hcc
            have hb1 : ((kk : Int) == -1) = false := by rw [beq_eq_false_iff_ne]; omega
            clear hre hcc hdd hr
            generalize hal : absI last = al at *
            have HAL := Lib.hid hal
            clear hal hin hz hzp hnin
            go_upto_region 13 with (first
              | (go_at_call 41; refine (HVA.out _).mono ?_; rintro e w' ⟨rfl, rfl⟩)
              | (at_lookup; refine wpList_lookup_own_unit _ rfl _ _ 58 rfl 3 86 lawI Try.underlying58 (zeroU _) B zs.length (setI zs) rfl hmp _ _ rfl hkey ?_)
              | (go_at_call 12; refine HLA.out.mono ?_; rintro e w' ⟨rfl, rfl⟩)
              | (at_mapUpdate; refine wpList_mapUpdate_own _ rfl _ _ _ 58 rfl 3 86 lawI Try.underlying58 (unitElem (H := Unit)) B zs.length (setI zs) rfl hm1 (by unfold maxLen; omega) _ _ _ rfl rfl hkey _ [] unitElem_mk ?_; intro w2 ho2 hgrow2))
            obtain ⟨hA2, hb2⟩ := HA1.out.setMap hgrow2 ho2
            have HA2 := Lib.hid hA2
            have HBW2 : Hid (Below B w w2) := HBA.out.trans hb2
            have HR2 := Lib.hid (HRV.out _ HBW2.out)
            clear hA2 hb2 ho2 hgrow2 hm1 hmp hh HA1 HBA HB2 HLA HLV HRV
            have HPL := Lib.hid hpl
            clear hpl
            have hBW2 := HA2.out.BW
            have HCW : Hid (∀ x ∈ cc, -4000 ≤ x ∧ x ≤ 4000) := fun x hx => by
              have h1 := (HW.out.cls cc (mem_clsP.2 ⟨kk, HCC.out⟩)).2 x hx
              have h2 := plc_absI x
              have h3 := HW.out.n
              have h4 : absI x = x ∨ absI x = -x := by unfold absI; split <;> simp
              omega
            have HCN : Hid (cc.length ≤ 8001) := by
              have hnd := (HW.out.cls cc (mem_clsP.2 ⟨kk, HCC.out⟩)).1
              have hsub : cc ⊆ (List.range 8001).map (fun (i : Nat) => (i : Int) - 4000) := fun x hx => by
                have := HCW.out x hx
                exact List.mem_map.2 ⟨(x + 4000).toNat, List.mem_range.2 (by omega), by omega⟩
              have := hnd.length_le_of_subset hsub
              unfold Hid
              simpa using this
            have HCV := Lib.hid (pclsT_any w2 (HPB.out w2 HBW2.out) (kk : Int) (by omega) (by omega))
            rw [if_neg (by omega), Int.toNat_natCast, HCC.out, Option.getD_some] at HCV
            go_wp2_with fail
            refine HR2.out.mono ?_
            rintro e w' ⟨rfl, rfl⟩
            go_wp2_with fail
            refine HCV.out.mono ?_
            rintro e w4 ⟨u, d, rfl, hu, hp, hb4⟩
            have HU := Lib.hid hu
            have HA4 : Hid (FnB B (NewB w2 w4) w4 B (.slice da ds.length dc) (.slice (some ⟨g, 0, none⟩) K tc) (zs ++ [al]) ds rest) := HA2.out.more hb4 fun i hi => .inr hi
            have HBW4 : Hid (Below B w w4) := HBW2.out.trans (hb4.mono hBW2)
            have HID := Lib.hid (HDD.out d hp)
            have HDB : Hid (∀ j, j < d.length → -4000 ≤ d.getD j 0 ∧ d.getD j 0 ≤ 4000) := fun j hj => HCW.out _ (hp.mem_iff.1 (getD_mem hj))
            have hdn : d.length ≤ 8001 := by rw [hp.length_eq]; exact HCN.out
            obtain ⟨ua, uc, rfl, hu1, hu2, _⟩ := hu
            unfold maxLen at hu2
            clear hp hb4 HCV HR2 HCW HCN
            generalize hN : d.length = N at *
            have HN := Lib.hid hN
            clear hN
            go_wp2_with fail
            go_loopw [7, 14, 68] (fun tv _ iv V => ∃ j : Nat, j ≤ N ∧ iv = .int .i64 (j : Int) ∧ FnB B (NewB w2 w4) V B (.slice da ds.length dc) tv (zs ++ [al]) ds (rest ++ (d.take j).map fun x => -x) ∧ Kp (NewB w2 w4) w4 V ∧ Below B w V) (fun _ _ iv _ => N - (intOf iv).toNat)
            case atStart => exact ⟨0, Nat.zero_le _, rfl, by rw [List.take_zero, List.map_nil, List.append_nil]; exact HA4.out, Kp.refl _ _, HBW4.out⟩
            case round =>
              obtain ⟨j, hj, rfl, hA, hK, hbV⟩ := hrel
              clear HA4 HBW4
              have HA := Lib.hid hA
              have HK := Lib.hid hK
              have HBV := Lib.hid hbV
              have hlen : (rest ++ (d.take j).map fun x => -x).length = K + j := by rw [List.length_append, HRL.out, List.length_map, List.length_take, HN.out, Nat.min_eq_left hj]
              have ho := hA.rt
              rw [hlen] at ho
              obtain ⟨ta2, tc2, rfl, ht3, ht4⟩ := own_shape ho
              unfold maxLen at ht4
              have HO := Lib.hid ho
              have hBW5 := hA.BW
              clear hA hK hbV ho
              by_cases hlt : j < N
              · obtain ⟨a', c', e', _, _, h3⟩ := HU.out.keep HK.out
                injection e' with f1 f2 f3
                subst f1; subst f3
                clear f2
                obtain ⟨b, off, e2, hbl, _, hcell⟩ := h3.resolve_left (by rw [HN.out]; omega)
                subst e2
                have y0 := hcell j (by rw [HN.out]; exact hlt)
                obtain ⟨hx1, hx2⟩ := HDB.out j hlt
                have HTK : Hid ((d.take (j + 1)).map (fun x => -x) = (d.take j).map (fun x => -x) ++ [-(d.getD j 0)]) := by
                  unfold Hid
                  rw [take_snoc d j (by rw [HN.out]; exact hlt), List.map_append]; rfl
                have HLE := Lib.hid hlen
                clear h3 hcell hlen
                generalize d.getD j 0 = x at *
                go_wp2_with (at_builtin; refine wpList_app1 rfl _ _ rfl wr B _ (K + j) _ (-x) HO.out hBW5 (by omega) rfl rfl ?_; intro tv9 w9 ho9 ha9)
                obtain ⟨hA9, hK9⟩ := HA.out.appT (x := -x) ha9 (by rw [HLE.out]; exact ho9)
                have HA9 := Lib.hid hA9
                have HK9 := Lib.hid (HK.out.trans hK9)
                have HB9 : Hid (Below B w w9) := HBV.out.trans ha9.below
                clear hA9 hK9 ho9 ha9
                go_roundw
                case rel => exact ⟨j + 1, by omega, by go_num, by rw [HTK.out, ← List.append_assoc]; exact HA9.out, HK9.out, HB9.out⟩
                case measure => go_light; simp [intOf]; omega
              · have e1 : decide ((j : Int) < (N : Int)) = false := decide_eq_false (by omega)
                have e2 : decide (j < N) = false := decide_eq_false hlt
                have hjN : j = N := by omega
                have htk : d.take j = d := List.take_of_length_le (by rw [HN.out, hjN]; exact Nat.le_refl _)
                rw [htk] at HA hlen
                have HLE := Lib.hid hlen
                have HTT : Hid (FnB B (fun _ => False) wr B (.slice da ds.length dc) (.slice ta2 (K + j) tc2) (zs ++ [al]) ds (rest ++ d.map fun x => -x)) := HA.out.less fun i hi => hi.elim
                clear hlt hjN htk hlen HA
                go_wp2_with fail
                go_roundg ((4001 - (zs ++ [al]).length) * 20000 + (K + j))
                case rel => exact ⟨zs ++ [al], ds, _, HTT.out, by rw [← HPL.out]; exact HID.out, HBV.out, by rw [HLE.out, List.length_append]; simp; omega, by rw [List.length_append]; simp; omega, by rw [HLE.out]⟩
                case measure =>
                  have h1 := HID.out.len HW.out
                  have h2 := HRL.out
                  simp at h1 ⊢
                  omega
end Go.Proofs.Ytjlmooimdogmjaa
