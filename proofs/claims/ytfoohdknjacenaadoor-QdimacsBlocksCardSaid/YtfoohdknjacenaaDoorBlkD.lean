/- Contracts of qdimacs.at, begins, marks.add, readVars. Conditions: the slice reads as words, each of some bytes; the errors lie as 'Sents8' says. -/
import Derived.Test.YtfoohdknjacenaaDoorBlkM
import Derived.Test.YtfoohdknjacenaaDoorHead2
import Derived.BigQuiet
namespace Go.Proofs.YtfoohdknjacenaaDoor
open Go.RowKit

set_option maxHeartbeats 1000000 in
theorem qat_any (A : Nat → Addr) (k : Int) (i : Nat) (w : World) : Calls Tryd.prog 13 #[.int .i64 k, .iface 155 (.pointer (some (A i)))] w fun e w' => (∃ ev, e = .returned ev ∧ AtB A w.heap.size w' ev k i) ∧ Below w.heap.size w w' := by
  go_enter Tryd.func13, Tryd.ntmps13
  go_wp2
  go_ret
  refine ⟨⟨_, rfl, w.heap.size, Nat.le_refl _, rfl, ?_, ?_⟩, (Below.refl _ w).alloc (Nat.le_refl _) _⟩
  · rw [World.cell?_alloc_at _ _ _ _ (by simp)]; rfl
  · rw [World.cell?_alloc_at _ _ _ _ (by simp)]; rfl

set_option maxHeartbeats 1000000 in
theorem begins_any (xs : List Int) (p : Nat) (f : Bool) (w : World) (hb : Bts xs) : Calls Tryd.prog 31 #[.agg #[.string (strOfNums xs), .int .i64 p, .bool f]] w fun e w' => e = .returned (.bool (isBlk (xs, p, f))) ∧ Below w.heap.size w w' := by
  have hB := (Below.refl w.heap.size w).alloc (Nat.le_refl _) (.cells #[.string (strOfNums xs), .int .i64 p, .bool f] 74)
  cases f with
  | false =>
    have hr : isBlk (xs, p, false) = false := rfl
    rw [hr]
    generalize strOfNums xs = s at *
    go_enter Tryd.func31, Tryd.ntmps31
    go_wp2_with fail
    go_ret
    exact ⟨rfl, hB⟩
  | true =>
    by_cases ha : xs = [97]
    · subst ha
      have hr : isBlk ([97], p, true) = true := rfl
      rw [hr]
      have hs : strOfNums [97] = ⟨#[97]⟩ := rfl
      rw [hs] at hB ⊢
      go_enter Tryd.func31, Tryd.ntmps31
      go_wp2_with fail
      go_ret
      exact ⟨rfl, hB⟩
    · have hne := str_ne (ys := [97]) hb (by intro x hx; simp at hx; omega) ha
      rw [show (strOfNums [97]).toList = [97] from by rw [str_toList]; rfl] at hne
      by_cases he : xs = [101]
      · subst he
        have hr : isBlk ([101], p, true) = true := rfl
        rw [hr]
        have hs : strOfNums [101] = ⟨#[101]⟩ := rfl
        rw [hs] at hB hne ⊢
        go_enter Tryd.func31, Tryd.ntmps31
        go_wp2_with fail
        go_ret
        exact ⟨rfl, hB⟩
      · have hne2 := str_ne (ys := [101]) hb (by intro x hx; simp at hx; omega) he
        rw [show (strOfNums [101]).toList = [101] from by rw [str_toList]; rfl] at hne2
        have hr : isBlk (xs, p, true) = false := by unfold isBlk; simp [ha, he]
        rw [hr]
        clear hb ha he hr
        generalize strOfNums xs = s at *
        go_enter Tryd.func31, Tryd.ntmps31
        go_wp2_with fail
        go_ret
        exact ⟨rfl, hB⟩

def AddPost (q n : Nat) (met : List Int) (v : Int) (w : World) (e : Ending) (w' : World) : Prop :=
  e = .returned (.bool (okV ((n : Int) - 1) met v)) ∧ (∃ bits, CelG Value.bool false w' q bits ∧ MkL n (if okV ((n : Int) - 1) met v = true then met ++ [v] else met) bits) ∧ Only q w w'
set_option maxHeartbeats 1000000 in
theorem add_any (q n : Nat) (met : List Int) (bits : List Bool) (v : Int) (w : World) (hc : CelG Value.bool false w q bits) (hm : MkL n met bits) :
    Calls Tryd.prog 50 #[.slice (some ⟨q, 0, none⟩) n n, .int .i64 v] w (AddPost q n met v w) := by
  by_cases h1 : v < 1
  · have hb : decide (v < 1) = true := by simpa using h1
    have hr : okV ((n : Int) - 1) met v = false := by unfold okV; simp; omega
    unfold AddPost
    rw [hr]
    go_enter Tryd.func50, Tryd.ntmps50
    go_wp2_with fail
    go_ret
    exact ⟨rfl, ⟨bits, hc, by simpa using hm⟩, Only.refl _ _⟩
  · obtain ⟨u, rfl⟩ : ∃ u : Nat, v = u := ⟨v.toNat, by omega⟩
    have hb : decide ((u : Int) < 1) = false := by simpa using h1
    by_cases h2 : n ≤ u
    · have hb2 : decide ((n : Int) ≤ (u : Int)) = true := by simp; omega
      have hr : okV ((n : Int) - 1) met u = false := by unfold okV; simp; omega
      unfold AddPost
      rw [hr]
      go_enter Tryd.func50, Tryd.ntmps50
      go_wp2_with fail
      go_ret
      exact ⟨rfl, ⟨bits, hc, by simpa using hm⟩, Only.refl _ _⟩
    · have hb2 : decide ((n : Int) ≤ (u : Int)) = false := by simp; omega
      have hu : (u : Int) < n := by omega
      have g := hc.cells u (by rw [hm.1]; omega)
      have gf := hc.free u
      rw [hm.2 u (by omega) (by omega)] at g
      cases hk : met.contains (u : Int) with
      | true =>
        rw [hk] at g
        have hr : okV ((n : Int) - 1) met u = false := by unfold okV; rw [hk]; simp
        unfold AddPost
        rw [hr]
        clear hk hr
        go_enter Tryd.func50, Tryd.ntmps50
        go_wp2_with fail
        go_ret
        exact ⟨rfl, ⟨bits, hc, by simpa using hm⟩, Only.refl _ _⟩
      | false =>
        rw [hk] at g
        have hr : okV ((n : Int) - 1) met u = true := by unfold okV; rw [hk]; simp; omega
        unfold AddPost
        rw [hr]
        have HC := Lib.hid (hc.set u true)
        have HM := Lib.hid (hm.add u (by omega))
        clear hk hr hc hm
        go_enter Tryd.func50, Tryd.ntmps50
        go_wp2_with fail
        go_ret
        exact ⟨rfl, ⟨_, HC.out, HM.out⟩, Only.setCell _ _ _ _⟩

theorem WCellsO.cut {w : World} {g off : Nat} {ws : List Wd} (h : WCellsO w g off ws) (k : Nat) : WCellsO w g (off + k * 3) (ws.drop k) := by
  have hg : ∀ i, (ws.drop k).getD i wd0 = ws.getD (k + i) wd0 := fun i => by simp [List.getD]
  refine ⟨h.sq, fun i hi => ?_, fun i hi => ?_, fun i hi => ?_⟩
  · rw [List.length_drop] at hi; rw [hg, show off + k * 3 + i * 3 = off + (k + i) * 3 by omega]; exact h.text _ (by omega)
  · rw [List.length_drop] at hi; rw [hg, show off + k * 3 + i * 3 + 1 = off + (k + i) * 3 + 1 by omega]; exact h.pos _ (by omega)
  · rw [List.length_drop] at hi; rw [hg, show off + k * 3 + i * 3 + 2 = off + (k + i) * 3 + 2 by omega]; exact h.fst _ (by omega)
/-- A cut slice of words, whatever it begins at where nothing is left. -/
theorem wrowO_cut {w : World} {g off : Nat} {ws : List Wd} {n : Nat} (h : n = 0 ∨ WCellsO w g off ws) (hn : ws.length = n) (k : Nat) (a : Option Addr) (c' : Nat) (h1 : n - k ≤ c') (h2 : c' ≤ 9223372036854775807) (ha : a = some ⟨g, off + k * 3, none⟩ ∨ n ≤ k) : WRowO w (.slice a (n - k) c') (ws.drop k) := by
  refine ⟨a, c', by rw [List.length_drop, hn], by rw [List.length_drop, hn]; exact h1, by unfold maxLen; omega, ?_⟩
  rcases ha with ha | ha
  · rcases h with h | h
    · left; rw [List.length_drop]; omega
    · exact .inr ⟨g, off + k * 3, ha, h.cut k⟩
  · left; rw [List.length_drop]; omega

def RVPost (A : Nat → Addr) (q n : Nat) (w0 w : World) (ws : List Wd) (e : Int) (R : List Int × Nat × List Int × Flt) (r : Ending) (w' : World) : Prop :=
  (∃ lv rv ov bits, r = .returned (.tuple #[lv, rv, ov]) ∧ OutV A w.heap.size w' ws e ov R.2.2.2 ∧ CelG Value.bool false w' q bits ∧ MkL n R.2.2.1 bits ∧ (R.2.2.2.isOk = true → w'.ownsRow w.heap.size 3 1 lv R.1.length (R.1.map (Value.int .i64)) ∧ WRowO w0 rv (ws.drop R.2.1))) ∧ Only q w w'

set_option maxHeartbeats 4000000 in
theorem readVars_any (A : Nat → Addr) (v : Value) (ws : List Wd) (e : Int) (q n : Nat) (met : List Int) (bits : List Bool) (w0 w : World) (hS : Sents8 w0 A) (hv : WRowO w0 v ws) (hok : WOk ws) (hn : ws.length ≤ 4000) (hB : Below w0.heap.size w0 w) (hq : w0.heap.size ≤ q) (hc : CelG Value.bool false w q bits) (hm : MkL n met bits) :
    Calls Tryd.prog 32 #[v, .int .i64 e, .slice (some ⟨q, 0, none⟩) n n] w (RVPost A q n w0 w ws e (varsL ((n : Int) - 1) 0 ws met [])) := by
  have HVV := Lib.hid hv
  obtain ⟨a, cap, rfl, hcl, hcm, hw⟩ := hv
  have c0 := hS.c0
  have z0 : 1 < w0.heap.size := World.block_lt_of_cell? w0 _ c0
  have HC0 : Hid (∀ W, Below w0.heap.size w0 W → W.cell? ⟨1, 0, none⟩ = some (.iface 155 (.pointer (some (A 0))))) := fun W hW => (hW.cell (p := ⟨1, 0, none⟩) z0).trans c0
  have HT := Lib.hid (fun (k : Int) W => qat_any A k 0 W)
  have HWD := Lib.hid hw; clear hw
  have HOK := Lib.hid hok; clear hok
  clear hS c0
  have HPOST : Hid (∀ W (R : List Int × Nat × List Int × Flt) lv rv ov bits', varsL ((n : Int) - 1) 0 ws met [] = R → Only q w W → OutV A w.heap.size W ws e ov R.2.2.2 → CelG Value.bool false W q bits' → MkL n R.2.2.1 bits' → (R.2.2.2.isOk = true → W.ownsRow w.heap.size 3 1 lv R.1.length (R.1.map (Value.int .i64)) ∧ WRowO w0 rv (ws.drop R.2.1)) → RVPost A q n w0 w ws e (varsL ((n : Int) - 1) 0 ws met []) (.returned (.tuple #[lv, rv, ov])) W) := fun W R lv rv ov bits' hR ho h1 h2 h3 h4 => by
    rw [hR]
    exact ⟨⟨lv, rv, ov, bits', rfl, h1, h2, h3, h4⟩, ho⟩
  generalize hR : varsL ((n : Int) - 1) 0 ws met [] = R at *
  have HR := Lib.hid hR; clear hR
  generalize hP : RVPost A q n w0 w ws e R = P at *
  clear hP
  have HEND := Lib.hid (fun m acc => vr_end (vars := (n : Int) - 1) (ws := ws) (i := ws.length) (met := m) (acc := acc) (Nat.le_refl _))
  generalize hN : ws.length = k0 at *
  have HN := Lib.hid hN; clear hN
  generalize A 0 = a0 at *
  unfold maxLen at hcm
  have hqw := hc.sq
  go_enter Tryd.func32, Tryd.ntmps32
  go_wp2_with fail
  go_loopw [9, 10, 11, 12, 13, 16] (fun l _ _ _ _ i wr => ∃ (k : Nat) (m acc : List Int) (bs : List Bool), k ≤ k0 ∧ i = .int .i64 k ∧ wr.ownsRow w.heap.size 3 1 l acc.length (acc.map (Value.int .i64)) ∧ Only q w wr ∧ CelG Value.bool false wr q bs ∧ MkL n m bs ∧ acc.length ≤ k ∧ Hid (varsL ((n : Int) - 1) k (ws.drop k) m acc = R)) (fun _ _ _ _ _ i _ => k0 - (intOf i).toNat)
  case atStart => exact ⟨0, met, [], bits, Nat.zero_le _, rfl, ⟨rfl, .inl ⟨rfl, rfl⟩⟩, Only.refl _ _, hc, hm, Nat.le_refl _, HR.out⟩
  case round =>
    obtain ⟨k, m, acc, bs, hk, rfl, hown, hor, hcr, hmr, hal, HQ⟩ := hrel
    have hsz := hor.size
    have HBR := Lib.hid (hor.below hB hB.size hq)
    obtain ⟨al, cl, rfl, hl1, hl2⟩ := own_shape hown
    unfold maxLen at hl2
    have HOR := Lib.hid hor; clear hor
    have HCR := Lib.hid hcr; clear hcr
    have HMR := Lib.hid hmr; clear hmr
    by_cases hlt : k < k0
    · have hkl : k < ws.length := by rw [HN.out]; exact hlt
      obtain ⟨g, off, ha, hwc0⟩ := HWD.out.resolve_left (by omega)
      subst ha
      have hwc := hwc0.keep HBR.out
      have t1 : wr.cell? ⟨g, off + k * 3, none⟩ = some (.string (strOfNums (txt ws k))) := hwc.text k hkl
      have t2 := hwc.pos k hkl
      have t3 := hwc.fst k hkl
      obtain ⟨x1, x2, x3⟩ := HOK.out.at hkl
      have HNUM := Lib.hid (fun W => num_any (txt ws k) W x2 x3)
      unfold NumPost at HNUM
      have HPS : Hid (posL ws k e = ((ws.getD k wd0).2.1 : Int)) := by unfold Hid posL; rw [if_pos hkl]
      have HNONE := Lib.hid (fun (h : numL (txt ws k) = none) => vr_none (vars := (n : Int) - 1) (met := m) (acc := acc) hkl h)
      have HZERO := Lib.hid (fun (h : numL (txt ws k) = some 0) => vr_zero (vars := (n : Int) - 1) (met := m) (acc := acc) hkl h)
      have HMORE := Lib.hid (fun l (h : numL (txt ws k) = some l) => vr_more (vars := (n : Int) - 1) (met := m) (acc := acc) hkl h)
      have HBAD := Lib.hid (fun l (h : numL (txt ws k) = some l) => vr_bad (vars := (n : Int) - 1) (met := m) (acc := acc) hkl h)
      have HBA : Hid (∀ o, Below wr.heap.size wr (wr.alloc o)) := fun o => (Below.refl _ wr).alloc (Nat.le_refl _) _
      have HCUT := Lib.hid (fun (a : Option Addr) (c' : Nat) => wrowO_cut (n := k0) (.inr hwc0) HN.out (k + 1) a c')
      clear hwc hwc0 x1 x2 x3 hkl
      generalize txt ws k = xs at *
      generalize (ws.getD k wd0).2.1 = ps at *
      generalize (ws.getD k wd0).2.2 = fs at *
      generalize strOfNums xs = s at *
      generalize hacl : acc.length = d at *
      have HAL := Lib.hid hacl; clear hacl
      have hq1 : wr.heap.size ≠ q := by omega
      cases hnum : numL xs with
      | none =>
        rw [hnum] at HNUM
        have HE := Lib.hid (HQ.out.symm.trans (HNONE.out hnum))
        clear hnum HNONE HZERO HMORE HBAD HCUT
        go_wp2_with (first
          | (go_at_call 49; refine (HNUM.out _).mono ?_; rintro e2 w2 ⟨rfl, hb2⟩; have hbk := (HBA.out _).trans (hb2.mono (by simp)); have g0 := HC0.out _ (HBR.out.trans (hbk.mono HBR.out.size)); obtain ⟨gx0, gx1, gx2⟩ := cells3 wr w2 _ _ _ _ hb2)
          | (go_at_call 13; refine (HT.out _ _).mono ?_; rintro e3 w3 ⟨⟨ov, rfl, hat⟩, hb3⟩))
        (try simp only [Exit.inBlock, Exit.then]); refine bodyPost_ret (results_tmp3 rfl _ _ _) rfl ?_
        have hbz := hbk.trans (hb3.mono hbk.size)
        have hoz := HOR.out.trans (Only.of_below hbz)
        refine HPOST.out _ _ _ _ _ bs HE.out hoz (show AtB A w.heap.size w3 ov (posL ws k e) 0 from ?_) (HCR.out.keep hbz) HMR.out (fun h => by cases h)
        rw [HPS.out]
        exact hat.mono (by have := hbk.size; omega)
      | some l =>
        rw [hnum] at HNUM
        by_cases hl0 : l = 0
        · subst hl0
          have HE := Lib.hid (HQ.out.symm.trans (HZERO.out hnum))
          clear hnum HNONE HZERO HMORE HBAD
          by_cases hck : cap = k + 1
          all_goals
            go_wp2_with (go_at_call 49; refine (HNUM.out _).mono ?_; rintro e2 w2 ⟨rfl, hb2⟩; have hbk := (HBA.out _).trans (hb2.mono (by simp)); have g0 := HC0.out _ (HBR.out.trans (hbk.mono HBR.out.size)); obtain ⟨gx0, gx1, gx2⟩ := cells3 wr w2 _ _ _ _ hb2)
            go_region
            go_wp2
            (try simp only [Exit.inBlock, Exit.then]); refine bodyPost_ret (results_tmp3 rfl _ _ _) rfl ?_
            refine HPOST.out _ _ _ _ _ bs HE.out (HOR.out.trans (Only.of_below hbk.drew)) rfl (HCR.out.keep hbk.drew) HMR.out (fun _ => ⟨by rw [HAL.out]; exact own_keep hown hbk.drew, HCUT.out _ _ (by omega) (by omega) (by first | exact .inl rfl | exact .inr (by omega))⟩)
        · have hl0b : (l == 0) = false := by simp [hl0]
          have HADD := Lib.hid (fun W (h : CelG Value.bool false W q bs) => add_any q n m bs l W h HMR.out)
          unfold AddPost at HADD
          cases hok : okV ((n : Int) - 1) m l with
          | false =>
            have HE := Lib.hid (HQ.out.symm.trans (HBAD.out l hnum hl0 hok))
            rw [hok] at HADD
            clear hnum HNONE HZERO HMORE HBAD HCUT hok hl0
            go_wp2_with (first
              | (go_at_call 49; refine (HNUM.out _).mono ?_; rintro e2 w2 ⟨rfl, hb2⟩; have hbk := (HBA.out _).trans (hb2.mono (by simp)); obtain ⟨gx0, gx1, gx2⟩ := cells3 wr w2 _ _ _ _ hb2)
              | (go_at_call 50; refine (HADD.out _ (HCR.out.keep hbk)).mono ?_; rintro e4 w4 ⟨rfl, ⟨bs4, hc4, hm4⟩, ho4⟩; have g0 := HC0.out _ ((ho4.below (HBR.out.trans (hbk.mono HBR.out.size)) (by have := hbk.size; have := HBR.out.size; omega) hq)); have hy1 := (World.cell?_of_block (a := ⟨wr.heap.size, 1, none⟩) (ho4.block wr.heap.size (World.block_lt_of_cell? w2 _ gx1) (fun h => hq1 (by injection h)))).trans gx1)
              | (go_at_call 13; refine (HT.out _ _).mono ?_; rintro e3 w3 ⟨⟨ov, rfl, hat⟩, hb3⟩))
            (try simp only [Exit.inBlock, Exit.then]); refine bodyPost_ret (results_tmp3 rfl _ _ _) rfl ?_
            have hoz := (HOR.out.trans (Only.of_below hbk)).trans (ho4.trans (Only.of_below hb3))
            refine HPOST.out _ _ _ _ _ bs4 HE.out hoz (show AtB A w.heap.size w3 ov (posL ws k e) 0 from ?_) (hc4.keep hb3) hm4 (fun h => by cases h)
            rw [HPS.out]
            exact hat.mono (by have := hbk.size; have := ho4.size; omega)
          | true =>
            have HQ' := Lib.hid ((HMORE.out l hnum hl0 hok).symm.trans HQ.out)
            rw [hok] at HADD
            clear hnum HNONE HZERO HMORE HBAD HCUT hok hl0 HQ
            have HOWN := Lib.hid hown; clear hown
            go_wp2_with (first
              | (go_at_call 49; refine (HNUM.out _).mono ?_; rintro e2 w2 ⟨rfl, hb2⟩; have hbk := (HBA.out _).trans (hb2.mono (by simp)))
              | (go_at_call 50; refine (HADD.out _ (HCR.out.keep hbk)).mono ?_; rintro e4 w4 ⟨rfl, ⟨bs4, hc4, hm4⟩, ho4⟩; have hoz := (HOR.out.trans (Only.of_below hbk)).trans ho4; have hr4 := own_other (own_keep HOWN.out hbk) ho4 (fun e' => by have := (HOWN.out.lt q e').1; omega))
              | (at_builtin; refine wpList_app1 rfl _ _ rfl w4 w.heap.size _ _ _ _ hr4 hoz.size (by omega) rfl rfl ?_; intro v' w5 hown5 hap5))
            go_roundw
            case rel => exact ⟨k + 1, m ++ [l], acc ++ [l], bs4, by omega, by go_num, by rw [List.length_append, HAL.out]; exact hown5, hoz.andThen hap5.below, hc4.keepB hap5.below hqw, hm4, by rw [List.length_append, HAL.out, List.length_singleton]; omega, HQ'.out⟩
            case measure => go_light; simp [intOf]; omega
    · have hkn : k = k0 := by omega
      subst hkn
      have HE := Lib.hid (HQ.out.symm.trans (HEND.out m acc))
      have g0 := HC0.out _ HBR.out
      have HPS : Hid (posL ws k e = e) := by unfold Hid posL; rw [if_neg (by rw [HN.out]; omega)]
      clear hlt HQ HEND
      go_wp2_with (go_at_call 13; refine (HT.out _ _).mono ?_; rintro e3 w3 ⟨⟨ov, rfl, hat⟩, hb3⟩)
      (try simp only [Exit.inBlock, Exit.then]); refine bodyPost_ret (results_tmp3 rfl _ _ _) rfl ?_
      refine HPOST.out _ _ _ _ _ bs HE.out (HOR.out.trans (Only.of_below hb3)) (show AtB A w.heap.size w3 ov (posL ws k e) 0 from ?_) (HCR.out.keep hb3) HMR.out (fun h => by cases h)
      rw [HPS.out]
      exact hat.mono hsz
end Go.Proofs.YtfoohdknjacenaaDoor
