/- learn's hence.is and hence.byReason at every place of the trail: 'is_of' from byReason's contract, both by induction. Conditions: as for 'byR_of'. -/
import Derived.Test.YtjlmooimdogmjaaLg45
set_option linter.unusedVariables false
set_option linter.unusedSimpArgs false
set_option linter.unusedVariables false
set_option linter.unusedSimpArgs false
namespace Go.Proofs.Ytjlmooimdogmjaa
open Go.RowKit Go.Maps

theorem updF_at {f : Int → Int} {v x : Int} : updF f v x v = x := if_pos rfl
theorem updF_off {f : Int → Int} {v x u : Int} (h : u ≠ v) : updF f v x u = f u := if_neg h
theorem Cons.upd {p : Pr} {V : List Int} {i : Nat} {f : Int → Int} {x : Int} (hw : PrW p) (hi : i < p.tr.length) (hc : Cons p V i f) : Cons p V i (updF f (vrI p i) x) := fun j hj hjl => by
  rw [updF_off (fun e => by have := hw.vr_inj hjl hi e; omega)]
  exact hc j hj hjl
theorem Cons.one {p : Pr} {V : List Int} {i : Nat} {f : Int → Int} (hc : Cons p V i f) (h : (f (vrI p i) = 0 ∧ vrI p i ∉ V) ∨ (f (vrI p i) = 1 ∧ Hen p V i) ∨ (f (vrI p i) = 2 ∧ ¬ Hen p V i)) : Cons p V (i + 1) f := fun j hj hjl => by
  by_cases e : j = i
  · rw [e]; exact h
  · exact hc j (by omega) hjl

set_option maxRecDepth 8000 in
set_option maxHeartbeats 8000000 in
theorem is_of {p : Pr} {V : List Int} {v : Value} {S : List Nat} {mb C i : Nat} (hC : C ≤ 1000000) (hmb : mb ∉ S) (hi : i < p.tr.length) (hby : ∀ C, C ≤ 1000000 → BySpec p V v S mb C i) : IsSpec p V v S mb C i := by
  intro W f n hs hK hn hc
  have hw := hs.wf
  have HW := Lib.hid hw
  have hci := hc i (Nat.lt_succ_self _) hi
  have HCB : Hid (Cons p V i f) := fun j hj hjl => hc j (by omega) hjl
  have HC0 := Lib.hid hc
  obtain ⟨_, _, hv1, hv2⟩ := hw.tr_bd hi
  have HPV : Hid (∀ V', Chg [mb] W V' → PrS V' v S p) := fun V' hV => hs.keep hV fun j hj hm => by simp at hm; subst hm; exact hmb hj
  have hal : Below W.heap.size W (W.alloc (.cells #[v, .map (some mb)] 83)) := (Below.refl _ _).alloc (Nat.le_refl _) _
  have HCA : Hid (Chg [mb] W (W.alloc (.cells #[v, .map (some mb)] 83))) := Chg.of_below hal
  have hx0 : (W.alloc (.cells #[v, .map (some mb)] 83)).cell? ⟨W.heap.size, 0, none⟩ = some v ∧ (W.alloc (.cells #[v, .map (some mb)] 83)).cell? ⟨W.heap.size, 1, none⟩ = some (.map (some mb)) := by
    constructor <;> (unfold World.cell?; rw [show (W.alloc (.cells #[v, .map (some mb)] 83)).heap[W.heap.size]? = _ from heap_alloc_new W _]; rfl)
  have hK1 : KnS p (W.alloc (.cells #[v, .map (some mb)] 83)) mb f n := hK.blk (hal.block mb hK.lt)
  have hlk := hK1.look (vrI p i) (by omega) (by omega)
  have HK1 := Lib.hid hK1
  have HN := Lib.hid hn
  have HI := Lib.hid hi
  have hlev := hw.levI hi
  have hz1 := zeroN_upd hw hi (x := 2) (by decide) (f := f)
  obtain ⟨q, rfl⟩ := hs.ptr
  have hmsz : W.heap.size ≠ mb := by have := hK.lt; omega
  have HMS := Lib.hid hmsz
  clear hs hK hw hc hn hal hK1 hmsz
  by_cases h0 : f (vrI p i) = 0
  · obtain ⟨-, hnV⟩ : f (vrI p i) = 0 ∧ vrI p i ∉ V := by
      rcases hci with h | ⟨h, _⟩ | ⟨h, _⟩
      · exact h
      · omega
      · omega
    have hzz := hz1 h0
    rw [h0] at hlk
    clear hci hz1
    obtain ⟨D, k1, k2, k3⟩ := HK1.out.ex
    have hkey := keyI (vrI p i) (by omega) (by omega)
    have hnC : n < 1000000 := by have := HN.out; omega
    have HCU : Hid (Cons p V i (updF f (vrI p i) 2)) := HCB.out.upd HW.out hi
    have HF2 : Hid (∀ j, i + 1 ≤ j → j < p.tr.length → updF f (vrI p i) 2 (vrI p j) = f (vrI p j)) := fun j hj hjl => updF_off fun e => by have := HW.out.vr_inj hjl hi e; omega
    have HNV := Lib.hid hnV
    have HZ2 : Hid (n + 1 + 2 * zeroN p (updF f (vrI p i) 2) ≤ C - 1) := by have := HN.out; unfold Hid; omega
    have HZ3 : Hid (1 ≤ C ∧ C - 1 ≤ 1000000 ∧ n + 2 ≤ 1000000) := by have := HN.out; unfold Hid; omega
    have HOF : Hid (∀ j, i + 1 ≤ j → j < p.tr.length → vrI p j ≠ vrI p i) := fun j hj hjl e => by have := HW.out.vr_inj hjl hi e; omega
    clear hzz hnV h0 HN
    go_enter Try.func76, Try.ntmps76
    go_upto_region 3 with (first
      | (at_mapUpdate; refine wpList_mapUpdate_own _ rfl _ _ _ 81 rfl 3 3 lawI Try.underlying81 (plainElem (H := Unit) Try.prog 3) mb n D rfl k1 (by unfold maxLen; omega) _ (.int .i64 2) _ rfl rfl hkey _ [] (plainElem_int Try.underlying3 (WalkArith.wf_i64 ⟨by omega, by omega⟩)) ?_; intro w2 ho2 hg2))
    have HCG2 : Hid (Chg [mb] (W.alloc (.cells #[.pointer (some ⟨q, 0, none⟩), .map (some mb)] 83)) w2) := Chg.grown hg2 (by simp)
    have HK2 : Hid (KnS p w2 mb (updF f (vrI p i) 2) (n + 1)) := KnS.put (W := w2) k2 k3 ho2
    have HCH2 : Hid (Chg [mb] W w2) := HCA.out.trans HCG2.out (Fresh.refl _ _)
    have hasz : W.heap.size < (W.alloc (.cells #[.pointer (some ⟨q, 0, none⟩), .map (some mb)] 83)).heap.size := by rw [show (W.alloc (.cells #[.pointer (some ⟨q, 0, none⟩), .map (some mb)] 83)).heap.size = W.heap.size + 1 from Array.size_push _]; exact Nat.lt_succ_self _
    have hnm : W.heap.size ∉ [mb] := by simp; exact HMS.out
    have HX2 : Hid (W.heap.size < w2.heap.size ∧ w2.cell? ⟨W.heap.size, 0, none⟩ = some (.pointer (some ⟨q, 0, none⟩)) ∧ w2.cell? ⟨W.heap.size, 1, none⟩ = some (.map (some mb))) := ⟨Nat.lt_of_lt_of_le hasz HCG2.out.size, (HCG2.out.cell (o := 0) hasz hnm).trans hx0.1, (HCG2.out.cell (o := 1) hasz hnm).trans hx0.2⟩
    have HNM := Lib.hid hnm
    have HP2 : Hid (PrS w2 (.pointer (some ⟨q, 0, none⟩)) S p) := HPV.out _ HCH2.out
    have HLV := Lib.hid (plev_any w2 HP2.out (vrI p i) (by omega) (by omega))
    rw [hlev] at HLV
    have HBY := Lib.hid (hby (C - 1) HZ3.out.2.1 w2 _ _ HP2.out HK2.out HZ2.out HCU.out)
    unfold IsPost at HBY
    have x20 := HX2.out.2.1
    have x21 := HX2.out.2.2
    have HLI : Hid (lvI p i = 0 → Hen p V i) := fun h => .zero h
    have HHI := Lib.hid (hen_iff (p := p) (V := V) (i := i))
    clear hx0 hlk HK1 HCA ho2 hg2 hasz hnm hlev hby k1 k2 k3 HPV HCG2
    obtain ⟨vi, hvi⟩ : ∃ vi, vi = vrI p i := ⟨_, rfl⟩
    rw [← hvi] at HLV HBY hkey hv1 hv2 ⊢
    have HVI : Hid (vi = vrI p i) := hvi
    clear hvi
    by_cases hl : lvI p i = 0
    · -- <ZERO
      obtain ⟨D2, k1, k2, k3⟩ := HK2.out.ex
      have hn2 := HZ3.out.2.2
      rw [hl] at HLV
      have HH := Lib.hid (HLI.out hl)
      clear HLI HHI HBY hl
      go_wp2_with fail
      refine HLV.out.mono ?_
      rintro e w' ⟨rfl, rfl⟩
      go_upto_region 5 with (first
        | (at_mapUpdate; refine wpList_mapUpdate_own _ rfl _ _ _ 81 rfl 3 3 lawI Try.underlying81 (plainElem (H := Unit) Try.prog 3) mb (n + 1) D2 rfl k1 (by unfold maxLen; omega) _ (.int .i64 1) _ rfl rfl hkey _ [] (plainElem_int Try.underlying3 (WalkArith.wf_i64 ⟨by omega, by omega⟩)) ?_; intro w4 ho4 hg4))
      have HCG4 : Hid (Chg [mb] w2 w4) := Chg.grown hg4 (by simp)
      have HK4 : Hid (KnS p w4 mb (updF (updF f (vrI p i) 2) vi 1) (n + 1 + 1)) := KnS.put (W := w4) k2 k3 ho4
      have x41 := (HCG4.out.cell (o := 1) HX2.out.1 HNM.out).trans x21
      have hlk := HK4.out.look vi (by omega) (by omega)
      rw [updF_at] at hlk
      clear k1 k2 k3 ho4 hg4 x20 x21 hkey HLV
      go_wp2_with fail
      go_ret
      have hz4 : zeroN p (updF (updF f (vrI p i) 2) vi 1) ≤ zeroN p (updF f (vrI p i) 2) := zeroN_le (by decide)
      have hz2 := HZ2.out
      have hz3 := HZ3.out
      have hvi := HVI.out
      subst hvi
      refine ⟨true, _, _, rfl, ⟨fun _ => HH.out, fun _ => rfl⟩, HK4.out, by omega, (HCU.out.upd HW.out HI.out).one (.inr (.inl ⟨updF_at, HH.out⟩)), fun j hj hjl => ?_, HCH2.out.trans HCG4.out (Fresh.refl _ _)⟩
      rw [updF_off (HOF.out j hj hjl)]
      exact HF2.out j hj hjl
      -- ZERO>
    · -- <REA
      have hb0 : ((lvI p i : Int) == 0) = false := by rw [beq_eq_false_iff_ne]; omega
      have HNL := Lib.hid hl
      clear HLI hl
      go_wp2_with fail
      refine HLV.out.mono ?_
      rintro e w' ⟨rfl, rfl⟩
      go_wp2_with fail
      refine HBY.out.mono ?_
      rintro e w3 ⟨bb, f3, n3, rfl, hbb, hK3, hn3, hc3, hf3, hch3⟩
      have HBB := Lib.hid hbb
      have HK3 := Lib.hid hK3
      have HN3 := Lib.hid hn3
      have HC3 := Lib.hid hc3
      have HF3 := Lib.hid hf3
      have HCH3 : Hid (Chg [mb] w2 w3) := hch3
      have x31 := (HCH3.out.cell (o := 1) HX2.out.1 HNM.out).trans x21
      have hw3s := Nat.lt_of_lt_of_le HX2.out.1 HCH3.out.size
      clear hK3 hn3 hc3 hf3 hch3 HBY HLV x20 x21 hbb
      cases bb with
      | true =>
        obtain ⟨D2, k1, k2, k3⟩ := HK3.out.ex
        have hn3 : n3 ≤ 1000000 - 1 := by have := HN3.out; have := HZ3.out; omega
        go_upto_region 5 with (first
          | (at_mapUpdate; refine wpList_mapUpdate_own _ rfl _ _ _ 81 rfl 3 3 lawI Try.underlying81 (plainElem (H := Unit) Try.prog 3) mb n3 D2 rfl k1 (by unfold maxLen; omega) _ (.int .i64 1) _ rfl rfl hkey _ [] (plainElem_int Try.underlying3 (WalkArith.wf_i64 ⟨by omega, by omega⟩)) ?_; intro w4 ho4 hg4))
        have HCG4 : Hid (Chg [mb] w3 w4) := Chg.grown hg4 (by simp)
        have HK4 : Hid (KnS p w4 mb (updF f3 vi 1) (n3 + 1)) := KnS.put (W := w4) k2 k3 ho4
        have x41 := (HCG4.out.cell (o := 1) hw3s HNM.out).trans x31
        have hlk := HK4.out.look vi (by omega) (by omega)
        rw [updF_at] at hlk
        clear k1 k2 k3 ho4 hg4 x31 hkey
        go_wp2_with fail
        go_ret
        have hz4 : zeroN p (updF f3 vi 1) ≤ zeroN p f3 := zeroN_le (by decide)
        have hz2 := HN3.out
        have hz3 := HZ3.out
        have hvi := HVI.out
        subst hvi
        have HH : Hen p V i := HHI.out.2 (.inr (.inr (HBB.out.1 (by first | exact rfl | trivial))))
        refine ⟨true, _, _, rfl, ⟨fun _ => HH, fun _ => rfl⟩, HK4.out, by omega, (HC3.out.upd HW.out HI.out).one (.inr (.inl ⟨updF_at, HH⟩)), fun j hj hjl => ?_, (HCH2.out.trans HCH3.out (Fresh.refl _ _)).trans HCG4.out (Fresh.refl _ _)⟩
        rw [updF_off (HOF.out j hj hjl), HF3.out j (by omega) hjl]
        exact HF2.out j hj hjl
      | false =>
        have hlk := HK3.out.look vi (by omega) (by omega)
        have hf2 : f3 vi = 2 := by
          have := HF3.out i (Nat.le_refl _) HI.out
          rw [← HVI.out] at this
          rw [this]
          exact updF_at
        rw [hf2] at hlk
        have HF2V := Lib.hid hf2
        clear hf2 hkey
        go_wp2_with fail
        go_ret
        have hz2 := HN3.out
        have hz3 := HZ3.out
        have HNH : ¬ Hen p V i := fun h => by
          rcases HHI.out.1 h with h | h | h
          · exact HNV.out h
          · exact HNL.out h
          · exact Bool.noConfusion (HBB.out.2 h)
        refine ⟨false, f3, n3, rfl, ⟨fun h => Bool.noConfusion h, fun h => absurd h HNH⟩, HK3.out, by omega, HC3.out.one (.inr (.inr ⟨by rw [← HVI.out]; exact HF2V.out, HNH⟩)), fun j hj hjl => ?_, HCH2.out.trans HCH3.out (Fresh.refl _ _)⟩
        rw [HF3.out j (by omega) hjl, HVI.out]
        exact HF2.out j hj hjl
      -- REA>
  · have HFV : Hid ((f (vrI p i) == 1) = true ↔ Hen p V i) := by
      rcases hci with h | ⟨h, h'⟩ | ⟨h, h'⟩
      · exact absurd h.1 h0
      · rw [h]; exact ⟨fun _ => h', fun _ => rfl⟩
      · rw [h]; exact ⟨fun e => Bool.noConfusion e, fun e => absurd e h'⟩
    clear hci hz1 hlev HPV HCB
    generalize f (vrI p i) = y at *
    have b0 : (y == 0) = false := beq_eq_false_iff_ne.2 h0
    clear h0
    go_enter Try.func76, Try.ntmps76
    go_wp2_with fail
    go_ret
    exact ⟨_, f, n, rfl, HFV.out, HK1.out, HN.out, HC0.out, fun _ _ _ => rfl, HCA.out⟩

theorem isB_any {p : Pr} {V : List Int} {v : Value} {S : List Nat} {mb : Nat} (hcl : p.cl.length ≤ 10000) (hmb : mb ∉ S) : ∀ m i, i < m → i < p.tr.length → ∀ C, C ≤ 1000000 → IsSpec p V v S mb C i ∧ BySpec p V v S mb C i := by
  intro m
  induction m with
  | zero => intro i hi; exact absurd hi (Nat.not_lt_zero _)
  | succ m ih =>
    intro i him hi C hC
    have hb : ∀ C, C ≤ 1000000 → BySpec p V v S mb C i := fun C hC => byR_of hC hcl hmb hi fun j hj => (ih j (by omega) (by omega) C hC).1
    exact ⟨is_of hC hmb hi hb, hb C hC⟩
end Go.Proofs.Ytjlmooimdogmjaa
