/- The walk of skolemlaw4.DimacsBlanks: it answers true. Conditions: the slices read as 64-bit ints; the errors and the table of powers of ten lie as the program lays them. -/
import Derived.Test.YteihaanpllmieaaDoorLawReads
import Derived.Test.YteihaanpllmieaaDoorBytesD
import Derived.Test.YteihaanpllmieaaDoorBlankP
import Derived.Test.YteihaanpllmieaaDoorMakeC
import Derived.Test.YteihaanpllmieaaDoorCopyB
import Derived.Test.YteihaanpllmieaaDoorTabs8
import Derived.Test.YteihaanpllmieaaDoorOpenRows
namespace Go.Proofs.YteihaanpllmieaaDoor
open Go.RowKit

theorem good_small9 {xss : List (List Int)} {m : Int} (hm : m ≤ 100) (h : ∀ c ∈ xss, ∀ l ∈ c, l ≠ 0 ∧ isF l m = true) : ∀ c ∈ xss, ∀ l ∈ c, -1000 < l ∧ l < 1000 := fun c hc l hl => by
  have := (h c hc l hl).2
  unfold isF at this
  simp at this
  omega
theorem len_le_sum9 {xss : List (List Int)} {c : List Int} (h : c ∈ xss) : c.length ≤ (xss.map List.length).sum := by
  induction xss with
  | nil => cases h
  | cons d xss ih =>
    simp only [List.map_cons, List.sum_cons]
    rcases List.mem_cons.1 h with rfl | h
    · omega
    · have := ih h; omega
/-- Which gap is ahead of the word i. -/
def gix (gs : List Int) (i : Nat) : Nat := (((gs.getD (i % gs.length) 0).tmod 5 + 5) % 5).toNat
theorem gix_lt (gs : List Int) (i : Nat) : gix gs i < 5 := by unfold gix; omega
theorem gap_cell (W : World) (q : Nat) (hq : q < 5) (T : TypeId) : (W.alloc (.cells #[.string ⟨#[32]⟩, .string ⟨#[10]⟩, .string ⟨#[9, 32]⟩, .string ⟨#[10, 99, 32, 97, 110, 121, 32, 119, 111, 114, 100, 32, 48, 10]⟩, .string ⟨#[13, 10]⟩] T)).cell? ⟨W.heap.size, q, none⟩ = some (.string (strOfNums (gapS q))) := by
  rw [World.cell?_alloc_at _ _ _ _ rfl]
  match q, hq with
  | 0, _ => rfl
  | 1, _ => rfl
  | 2, _ => rfl
  | 3, _ => rfl
  | 4, _ => rfl
theorem word_text {ws : List Wd} {T : List (List Int)} (h : ws.map (·.1) = T) (k : Nat) : txt ws k = T.getD k [] := by
  subst h
  unfold txt
  by_cases hk : k < ws.length
  · simp [List.getD, hk]
  · simp [List.getD, show ws.length ≤ k by omega]; rfl

theorem rowG_take {w : World} {a : Option Addr} {m c : Nat} {xs : List Int} (h : RowG (Value.int .u8) 0 w (.slice a m c) xs) (k : Nat) (hk : k ≤ m) : RowG (Value.int .u8) 0 w (.slice a k c) (xs.take k) := by
  obtain ⟨a', c', e, h1, h2, h3⟩ := h
  injection e with e1 e2 e3
  subst e1; subst e2; subst e3
  refine ⟨a, c, by rw [List.length_take, Nat.min_eq_left hk], by rw [List.length_take]; omega, h2, ?_⟩
  rcases h3 with h3 | ⟨b, off, e, hb, hc⟩
  · left; rw [List.length_take]; omega
  · refine .inr ⟨b, off, e, hb, fun i hi => ?_⟩
    rw [List.length_take] at hi
    rw [hc i (by omega)]
    congr 2
    simp [List.getD, show i < k by omega]

set_option maxRecDepth 8000 in
set_option maxHeartbeats 8000000 in
theorem blanks_in (A : Nat → Addr) (a : Option Addr) (c : Nat) (cs : List Int) (ga : Option Addr) (gc : Nat) (gs : List Int) (w : World) (hS : Sents8 w A) (ht : Tabs w) (hv : RowAt w a c cs) (hcs : ∀ y ∈ cs, -9223372036854775808 ≤ y ∧ y ≤ 9223372036854775807) (hn : cs.length ≤ 60) (hgv : RowAt w ga gc gs) (hgs : ∀ y ∈ gs, -9223372036854775808 ≤ y ∧ y ≤ 9223372036854775807) (hg1 : 1 ≤ gs.length) (hg2 : gs.length ≤ 100) :
    Calls Tryd.prog 5 #[.slice a cs.length c, .slice ga gs.length gc] w fun e w' => e = .returned (.bool true) ∧ Below w.heap.size w w' := by
  have HF := Lib.hid (first4_any A w hS)
  have HM : Hid (∀ W, Below w.heap.size w W → Calls Tryd.prog 18 #[.slice a cs.length c, .int .i64 9] W fun e w' => (∃ v xss, e = .returned (.agg #[.int .i64 9, v]) ∧ CRow w' W.heap.size v xss ∧ (∀ c ∈ xss, ∀ l ∈ c, l ≠ 0 ∧ isF l 9 = true) ∧ (xss.map List.length).sum ≤ cs.length ∧ xss.length ≤ cs.length) ∧ Below W.heap.size W w') := fun W hW => makeCNF_any a c cs 9 W (by omega) (by omega) (hv.keep hW) hcs (by omega)
  have HBD : Hid (∀ W, Below w.heap.size w W → ∀ a' c' (xss : List (List Int)), RowsAt W a' c' xss → (∀ c ∈ xss, ∀ l ∈ c, l ≠ 0 ∧ isF l 9 = true) → (xss.map List.length).sum ≤ cs.length → xss.length ≤ cs.length → Calls Tryd.prog 19 #[.agg #[.int .i64 9, .slice a' xss.length c']] W fun e w' => (∃ v, e = .returned v ∧ w'.ownsRow W.heap.size 5 1 v (textL 9 xss).length ((textL 9 xss).map (Value.int .u8))) ∧ Below W.heap.size W w') := fun W hW a' c' xss hr hg h1 h2 => bytesD_any 9 a' c' xss W (by omega) hr (fun c hc l hl => by have := good_small9 (by omega) hg c hc l hl; omega) (by have := textL_len 9 xss (by omega) (by omega) (good_small9 (by omega) hg); exact Nat.le_trans this (by omega)) (by omega) (fun c hc => by have := len_le_sum9 hc; omega) (ht.keep hW)
  have HSP := Lib.hid (fun W v (xss : List (List Int)) (hr : RowG (Value.int .u8) 0 W v (textL 9 xss)) (hg : ∀ c ∈ xss, ∀ l ∈ c, l ≠ 0 ∧ isF l 9 = true) (h1 : (xss.map List.length).sum ≤ cs.length) (h2 : xss.length ≤ cs.length) => split_row v (textL 9 xss) true W hr (textL_bts _ _) (by have := textL_len 9 xss (by omega) (by omega) (good_small9 (by omega) hg); omega))
  have HRD := Lib.hid (fun W (hW : Below w.heap.size w W) v (xs : List Int) (hr : RowG (Value.int .u8) 0 W v xs) (hb : Bts xs) (hl : xs.length ≤ 4000) => readD_any A v xs W (hS.keep hW) hr hb hl)
  have HCB := Lib.hid (fun W v (xs : List Int) (hr : RowG (Value.int .u8) 0 W v xs) (hl : xs.length ≤ 4000) => copyB_any v xs W hr (by omega))
  have HGV := Lib.hid (fun W (hW : Below w.heap.size w W) => hgv.keep hW)
  have HGB := Lib.hid (fun k => show -9223372036854775808 ≤ gs.getD k 0 ∧ gs.getD k 0 ≤ 9223372036854775807 by
    by_cases hk : k < gs.length
    · have := hgs _ (List.getElem_mem hk); simpa [List.getD, hk] using this
    · simp [List.getD, show gs.length ≤ k by omega])
  clear hS ht hv hcs hgv hgs
  have hnb : decide ((60 : Int) < cs.length) = false := by simp; omega
  have hgb1 : ((gs.length : Int) == 0) = false := beq_eq_false_iff_ne.2 (by omega)
  have hgb2 : decide ((100 : Int) < gs.length) = false := by simp; omega
  have HQ := Lib.hid (fun i => show gix gs i = (((gs.getD (i % gs.length) 0).tmod 5 + 5) % 5).toNat from rfl)
  generalize hgl : gs.length = gn at *
  have HGL := Lib.hid hgl; clear hgl
  generalize cs.length = n at *
  go_enter Tryd.func5, Tryd.ntmps5
  go_wp2_with (first
    | (go_at_call 6; refine HF.out.mono ?_; rintro e w1 ⟨rfl, hb1⟩)
    | (go_at_call 18; refine (HM.out _ hb1).mono ?_; rintro e w2 ⟨⟨v, xss, rfl, hC, hg, hs1, hs2⟩, hb2⟩; have HW2 := hb1.trans (hb2.mono hb1.size); have hz2 := HW2.size; obtain ⟨a9, c9, rfl, hR⟩ := hC.rows; have HG := Lib.hid hg; clear hg; have hX := (Below.refl w2.heap.size w2).alloc (Nat.le_refl _) (.cells #[.int .i64 9, .slice a9 xss.length c9] 26); have HR := Lib.hid (hR.keep hX); have hXs := hX.size)
    | (go_at_call 19; refine (HBD.out _ (HW2.trans (hX.mono hz2)) _ _ xss HR.out HG.out hs1 hs2).mono ?_; rintro e w3 ⟨⟨tv, rfl, ho3⟩, hb3⟩; have hx3 := hX.trans (hb3.mono hXs); have HRT := Lib.hid (own_rowG (d := 0) ho3); obtain ⟨at3, ct3, rfl, _, _⟩ := own_shape ho3; clear ho3)
    | (go_at_call 9; refine (HSP.out _ _ xss HRT.out HG.out hs1 hs2).mono ?_; rintro e w4 ⟨⟨u, rfl, hr4⟩, hb4⟩; have hb34 := hb3.trans (hb4.mono hb3.size); have hx4 := hX.trans (hb34.mono hXs); have HW4 := HW2.trans (hx4.mono hz2); have hx4b := hb34; obtain ⟨ua, uc, rfl, huc1, huc2, hur⟩ := hr4; have hTL := textL_words 9 xss; have hTN := congrArg List.length hTL; rw [List.length_map] at hTN; have h4 : 4 ≤ (wordsT 9 xss).length := (by unfold wordsT; simp); have hT20 : (wordsT 9 xss).length ≤ 124 := (by have h7 := toksC_len xss; unfold wordsT; simp only [List.length_cons]; omega); rw [hTN] at huc1 hur ⊢; have HTL := Lib.hid hTL; have HTN := Lib.hid hTN; clear hTL hTN; unfold maxLen at huc2; generalize hTT : wordsT 9 xss = T at *; generalize wordsL true (textL 9 xss) = ws at *; generalize hTLn : T.length = tn at *; have HTT := Lib.hid hTT; have HTLn := Lib.hid hTLn; clear hTT hTLn; have HUR := Lib.hid hur; clear hur; have htn4 : decide ((tn : Int) < 4) = false := (by simp; omega)))
  have HBL := Lib.hid (fun k => show (blk (gp (gix gs)) 0 (T.take k)).length ≤ 2400 from by
    have h9 := blk_len (gp (gix gs)) (gp_len _) (T.take k) 0 (fun t ht => by
      have := wordsT_short 9 xss (by omega) (by omega) (good_small9 (by omega) HG.out) t (by rw [HTT.out]; exact List.mem_of_mem_take ht)
      exact this.1)
    have h8 : (T.take k).length ≤ tn := by rw [List.length_take, HTLn.out]; omega
    omega)
  have hb40 : Below w4.heap.size w4 w4 := Below.refl _ _
  clear hb1 hb2 hb3 hb4 hXs hb34
  go_loopw [8, 9] (fun bv i wr => ∃ (k m : Nat) (ab : Option Addr) (cb : Nat), k ≤ tn ∧ i = .int .i64 k ∧ bv = .slice ab m cb ∧ Hid (m = (blk (gp (gix gs)) 0 (T.take k)).length ∧ wr.ownsRow w4.heap.size 5 1 (.slice ab m cb) m ((blk (gp (gix gs)) 0 (T.take k)).map (Value.int .u8))) ∧ Below w4.heap.size w4 wr) (fun _ i _ => tn - (intOf i).toNat)
  case atStart => exact ⟨0, 0, none, 0, Nat.zero_le _, rfl, rfl, ⟨rfl, World.ownsRow_nil _ _ _ _⟩, hb40⟩
  case round =>
    obtain ⟨k, m, ab, cb, hk, rfl, rfl, HRO, hbr⟩ := hrel
    clear hb40
    have hsr := hbr.size
    by_cases hlt : k < tn
    · obtain ⟨g, hua, hwc⟩ := HUR.out.resolve_left (by have := HTN.out; omega)
      subst hua
      have hkl : k < T.length := by rw [HTLn.out]; exact hlt
      have HT : Hid (∀ W, Below w4.heap.size w4 W → W.cell? ⟨g, k * 3, none⟩ = some (.string (strOfNums (T.getD k [])))) := fun W hW => by
        have h8 := (hwc.keep hW).text k (by rw [HTN.out]; exact hlt)
        rw [← word_text HTL.out k]
        exact h8
      have HST := Lib.hid (blk_step (gp (gix gs)) T k hkl)
      have HBK := Lib.hid (HBL.out (k + 1))
      rw [HST.out] at HBK
      have HBT : Hid (Bts (T.getD k [])) := (wordsT_short 9 xss (by omega) (by omega) (good_small9 (by omega) HG.out) (T.getD k []) (by rw [HTT.out]; simp [List.getD, hkl])).2
      have HGP := Lib.hid (show gp (gix gs) k = if 0 < k ∧ k < 4 then [32] else if k = 4 then gapS (gix gs k) ++ [10] else gapS (gix gs k) from rfl)
      have HGX := Lib.hid (HQ.out k)
      have hjl : k % gn < gn := Nat.mod_lt _ (by omega)
      have HGC : Hid (∃ gb goff, ga = some ⟨gb, goff, none⟩ ∧ ∀ W, Below w4.heap.size w4 W → W.cell? ⟨gb, goff + k % gn, none⟩ = some (.int .i64 (gs.getD (k % gn) 0))) := by
        obtain ⟨_, _, h3⟩ := HGV.out w4 HW4
        obtain ⟨gb, goff, e, hb, hc⟩ := h3.resolve_left (by rw [HGL.out]; omega)
        exact ⟨gb, goff, e, fun W hW => (hW.cell (p := ⟨gb, goff + k % gn, none⟩) hb).trans (hc _ (by rw [HGL.out]; exact hjl))⟩
      obtain ⟨gb, goff, hga, hgc⟩ := HGC.out
      subst hga
      have HGC2 := Lib.hid hgc; clear hgc HGC
      have hz9 := HGB.out (k % gn)
      generalize gs.getD (k % gn) 0 = z at *
      have z1 := Int.tmod_lt_of_pos z (show (0 : Int) < 5 by omega)
      have z2 := Int.lt_tmod_of_pos z (show (0 : Int) < 5 by omega)
      have hql : gix gs k < 5 := gix_lt gs k
      have hq5 : (gix gs k : Int) < 5 := by omega
      have hqe : (z.tmod 5 + 5) % 5 = (gix gs k : Int) := by rw [HGX.out]; have h1 := Int.emod_nonneg (z.tmod 5 + 5) (show (5 : Int) ≠ 0 by omega); omega
      have hjm : (k : Int) % (gn : Int) = ((k % gn : Nat) : Int) := by simp
      clear hkl hwc
      generalize gix gs k = q at *
      generalize k % gn = j at *
      generalize T.getD k [] = tx at *
      generalize blk (gp (gix gs)) 0 (T.take k) = bk at *
      have hcase : (0 < k ∧ k < 4) ∨ k = 4 ∨ k = 0 ∨ 4 < k := by omega
      rcases hcase with hkc | hkc | hkc | hkc
      · have hgp : gp (gix gs) k = [32] := by rw [HGP.out, if_pos hkc]
        have hd1 : decide ((0 : Int) < k) = true := by simp; omega
        have hn1 : decide (0 < k) = true := by simp; omega
        have hd2 : decide ((k : Int) < 4) = true := by simp; omega
        have hn2 : decide (k < 4) = true := by simp; omega
        have hd3 : ((k : Int) == 4) = false := beq_eq_false_iff_ne.2 (by omega)
        have HGPH := Lib.hid hgp; clear hgp hkc hqe hjm
        go_wp2_with (first
          | (at_builtin; refine wpList_appStr rfl _ _ rfl w5 w4.heap.size _ _ _ tx HBT.out HO5.out hs5 (by rw [HK5.out]; have h1 := HBK.out; have h3 := gp_len (gix gs) k; simp only [List.length_append, List.length_cons, List.length_nil] at h1 ⊢; omega) rfl rfl ?_; intro v9 w9 hown9 hb9; have hz9 := hz5.trans hb9; obtain ⟨a9', k9, c9', rfl, HK9, HO9⟩ := bopen hown9; clear hown9)
          | (at_builtin; refine wpList_app1G (Value.int .u8) 22 5 (.int .u8 0) 1 Tryd.underlying22 infoU8 rfl (by decide) rfl _ _ rfl wr w4.heap.size _ _ _ 32 rfl HRO.out.2 hsr (by rw [HRO.out.1]; have h1 := HBK.out; simp only [List.length_append] at h1; omega) rfl rfl ?_; intro v5 w5 hown5 hap5; have hz5 := hbr.trans hap5.below; have hs5 : w4.heap.size ≤ w5.heap.size := hz5.size; obtain ⟨a5, k5, c5, rfl, HK5, HO5⟩ := bopen hown5; clear hown5; have t5 := HT.out _ hz5))
        go_roundw
        case rel => exact ⟨k + 1, k9, a9', c9', by omega, by go_num, rfl, by rw [HST.out, HGPH.out]; exact ⟨HK9.out, HO9.out⟩, hz9⟩
        case measure => simp [intOf]; omega
      · have hgp : gp (gix gs) k = gapS q ++ [10] := by rw [HGP.out, if_neg (by omega), if_pos hkc]
        have hd1 : decide ((0 : Int) < k) = true := by simp; omega
        have hn1 : decide (0 < k) = true := by simp; omega
        have hd2 : decide ((k : Int) < 4) = false := by simp; omega
        have hn2 : decide (k < 4) = false := by simp; omega
        have hd3 : ((k : Int) == 4) = true := beq_iff_eq.2 (by omega)
        have HGPH := Lib.hid hgp
        have HKC := Lib.hid hkc; clear hgp hkc
        have g1 := HGC2.out _ (hbr.alloc hsr (.cells #[.string ⟨#[32]⟩, .string ⟨#[10]⟩, .string ⟨#[9, 32]⟩, .string ⟨#[10, 99, 32, 97, 110, 121, 32, 119, 111, 114, 100, 32, 48, 10]⟩, .string ⟨#[13, 10]⟩] 9))
        have g2 := gap_cell wr q hql 9
        go_wp2_with (first
          | (at_builtin; refine wpList_appStr rfl _ _ rfl w6 w4.heap.size _ _ _ tx HBT.out HO6.out hs6 (by rw [HK6.out]; have h1 := HBK.out; have h2 := gapS_len q; simp only [List.length_append, List.length_cons, List.length_nil] at h1 ⊢; omega) rfl rfl ?_; intro v9 w9 hown9 hb9; have hz9 := hz6.trans hb9; obtain ⟨a9', k9, c9', rfl, HK9, HO9⟩ := bopen hown9; clear hown9)
          | (at_builtin; refine wpList_app1G (Value.int .u8) 22 5 (.int .u8 0) 1 Tryd.underlying22 infoU8 rfl (by decide) rfl _ _ rfl w5 w4.heap.size _ _ _ 10 rfl HO5.out hs5 (by rw [HK5.out]; have h1 := HBK.out; have h2 := gapS_len q; simp only [List.length_append] at h1 ⊢; omega) rfl rfl ?_; intro v6 w6 hown6 hap6; have hz6 := hz5.trans hap6.below; have hs6 : w4.heap.size ≤ w6.heap.size := hz6.size; obtain ⟨a6, k6, c6, rfl, HK6, HO6⟩ := bopen hown6; clear hown6; have t6 := HT.out _ hz6)
          | (at_builtin; refine wpList_appStr rfl _ _ rfl _ w4.heap.size _ _ _ (gapS q) (gapS_bts q) (HRO.out.2.alloc _) (by simp; omega) (by rw [HRO.out.1]; have h1 := HBK.out; have h2 := gapS_len q; simp only [List.length_append] at h1; omega) rfl rfl ?_; intro v5 w5 hown5 hb5; have hz5 := (hbr.alloc hsr _).trans hb5; have hs5 : w4.heap.size ≤ w5.heap.size := hz5.size; obtain ⟨a5, k5, c5, rfl, HK5, HO5⟩ := bopen hown5; clear hown5; have t5 := HT.out _ hz5))
        go_roundw
        case rel => exact ⟨k + 1, k9, a9', c9', by omega, by go_num, rfl, by rw [HST.out, HGPH.out, ← List.append_assoc]; exact ⟨HK9.out, HO9.out⟩, hz9⟩
        case measure => simp [intOf]; omega
      · have hgp : gp (gix gs) k = gapS q := by rw [HGP.out, if_neg (by omega), if_neg (by omega)]
        have hd1 : decide ((0 : Int) < k) = false := by simp; omega
        have hn1 : decide (0 < k) = false := by simp; omega
        have hd2 : decide ((k : Int) < 4) = true := by simp; omega
        have hn2 : decide (k < 4) = true := by simp; omega
        have hd3 : ((k : Int) == 4) = false := beq_eq_false_iff_ne.2 (by omega)
        have HGPH := Lib.hid hgp
        have HKC := Lib.hid hkc; clear hgp hkc
        have g1 := HGC2.out _ (hbr.alloc hsr (.cells #[.string ⟨#[32]⟩, .string ⟨#[10]⟩, .string ⟨#[9, 32]⟩, .string ⟨#[10, 99, 32, 97, 110, 121, 32, 119, 111, 114, 100, 32, 48, 10]⟩, .string ⟨#[13, 10]⟩] 9))
        have g2 := gap_cell wr q hql 9
        go_wp2_with (first
          | (at_builtin; refine wpList_appStr rfl _ _ rfl w5 w4.heap.size _ _ _ tx HBT.out HO5.out hs5 (by rw [HK5.out]; have h1 := HBK.out; have h2 := gapS_len q; simp only [List.length_append] at h1 ⊢; omega) rfl rfl ?_; intro v9 w9 hown9 hb9; have hz9 := hz5.trans hb9; obtain ⟨a9', k9, c9', rfl, HK9, HO9⟩ := bopen hown9; clear hown9)
          | (at_builtin; refine wpList_appStr rfl _ _ rfl _ w4.heap.size _ _ _ (gapS q) (gapS_bts q) (HRO.out.2.alloc _) (by simp; omega) (by rw [HRO.out.1]; have h1 := HBK.out; have h2 := gapS_len q; simp only [List.length_append] at h1; omega) rfl rfl ?_; intro v5 w5 hown5 hb5; have hz5 := (hbr.alloc hsr _).trans hb5; have hs5 : w4.heap.size ≤ w5.heap.size := hz5.size; obtain ⟨a5, k5, c5, rfl, HK5, HO5⟩ := bopen hown5; clear hown5; have t5 := HT.out _ hz5))
        go_roundw
        case rel => exact ⟨k + 1, k9, a9', c9', by omega, by go_num, rfl, by rw [HST.out, HGPH.out]; exact ⟨HK9.out, HO9.out⟩, hz9⟩
        case measure => simp [intOf]; omega
      · have hgp : gp (gix gs) k = gapS q := by rw [HGP.out, if_neg (by omega), if_neg (by omega)]
        have hd1 : decide ((0 : Int) < k) = true := by simp; omega
        have hn1 : decide (0 < k) = true := by simp; omega
        have hd2 : decide ((k : Int) < 4) = false := by simp; omega
        have hn2 : decide (k < 4) = false := by simp; omega
        have hd3 : ((k : Int) == 4) = false := beq_eq_false_iff_ne.2 (by omega)
        have HGPH := Lib.hid hgp
        have HKC := Lib.hid hkc; clear hgp hkc
        have g1 := HGC2.out _ (hbr.alloc hsr (.cells #[.string ⟨#[32]⟩, .string ⟨#[10]⟩, .string ⟨#[9, 32]⟩, .string ⟨#[10, 99, 32, 97, 110, 121, 32, 119, 111, 114, 100, 32, 48, 10]⟩, .string ⟨#[13, 10]⟩] 9))
        have g2 := gap_cell wr q hql 9
        go_wp2_with (first
          | (at_builtin; refine wpList_appStr rfl _ _ rfl w5 w4.heap.size _ _ _ tx HBT.out HO5.out hs5 (by rw [HK5.out]; have h1 := HBK.out; have h2 := gapS_len q; simp only [List.length_append] at h1 ⊢; omega) rfl rfl ?_; intro v9 w9 hown9 hb9; have hz9 := hz5.trans hb9; obtain ⟨a9', k9, c9', rfl, HK9, HO9⟩ := bopen hown9; clear hown9)
          | (at_builtin; refine wpList_appStr rfl _ _ rfl _ w4.heap.size _ _ _ (gapS q) (gapS_bts q) (HRO.out.2.alloc _) (by simp; omega) (by rw [HRO.out.1]; have h1 := HBK.out; have h2 := gapS_len q; simp only [List.length_append] at h1; omega) rfl rfl ?_; intro v5 w5 hown5 hb5; have hz5 := (hbr.alloc hsr _).trans hb5; have hs5 : w4.heap.size ≤ w5.heap.size := hz5.size; obtain ⟨a5, k5, c5, rfl, HK5, HO5⟩ := bopen hown5; clear hown5; have t5 := HT.out _ hz5))
        go_roundw
        case rel => exact ⟨k + 1, k9, a9', c9', by omega, by go_num, rfl, by rw [HST.out, HGPH.out]; exact ⟨HK9.out, HO9.out⟩, hz9⟩
        case measure => simp [intOf]; omega
    · have hkn : k = tn := by omega
      subst hkn
      have HRW := HRO.out
      rw [List.take_of_length_le (by rw [HTLn.out]; exact Nat.le_refl _)] at HRW
      have HBX := Lib.hid (HBL.out k)
      rw [List.take_of_length_le (by rw [HTLn.out]; exact Nat.le_refl _)] at HBX
      have HBTS : Hid (Bts (blk (gp (gix gs)) 0 T)) := blk_bts _ (gp_bts _) _ _ (fun t ht => (wordsT_short 9 xss (by omega) (by omega) (good_small9 (by omega) HG.out) t (by rw [HTT.out]; exact ht)).2)
      have HOK1 := Lib.hid (blank_ok (gix gs) 9 xss (by omega) (by omega) (by omega) HG.out)
      have HOK2 := Lib.hid (blank_more (gix gs) 9 xss (by omega) (by omega) (by omega) HG.out)
      have HOK3 := Lib.hid (fun hne => blank_less (gix gs) 9 xss (by omega) (by omega) (by omega) HG.out hne)
      have hpos : 0 < (blk (gp (gix gs)) 0 T).length := by
        have e := HTT.out
        unfold wordsT at e
        rw [← e, blk, List.length_append, List.length_append]
        simp; omega
      rw [HTT.out] at HOK1 HOK2 HOK3
      have HWr : Below w.heap.size w wr := HW4.trans (hbr.mono HW4.size)
      have HRX := Lib.hid (own_rowG (d := 0) HRW.2)
      have hmx := HRW.1
      have hcap : m ≤ cb ∧ cb ≤ 9223372036854775807 := by
        obtain ⟨a0, c0, e0, h1, h2⟩ := own_shape HRW.2
        injection e0 with e1 e2 e3
        unfold maxLen at h2
        omega
      obtain ⟨hcap1, hcap2⟩ := hcap
      clear HRO HRW HBL
      generalize blk (gp (gix gs)) 0 T = bx at *
      have hm0 : 0 < m := by omega
      have HMX := Lib.hid hmx; clear hmx hpos
      obtain ⟨m1, rfl⟩ : ∃ m1, m = m1 + 1 := ⟨m - 1, by omega⟩
      clear hm0
      have HBX4 : Hid (bx.length ≤ 4000) := by have := HBX.out; show bx.length ≤ 4000; omega
      have HX1 : Hid (∀ W, Below w.heap.size w W → RowG (Value.int .u8) 0 W (.slice ab (m1 + 1) cb) bx → Calls Tryd.prog 7 #[.slice ab (m1 + 1) cb] W fun e w' => (∃ cv, e = .returned (.tuple #[.agg #[.int .i64 9, cv], .nilIface]) ∧ CRow w' W.heap.size cv xss) ∧ Below W.heap.size W w') := fun W hW hr => by
        refine (HRD.out W hW _ bx hr HBTS.out HBX4.out).mono ?_
        rintro e w' ⟨⟨cv, ov, he, hc, ho⟩, hb⟩
        obtain ⟨ws', hrd⟩ := HOK1.out
        rw [hrd] at he hc ho
        obtain rfl : ov = .nilIface := ho
        exact ⟨⟨cv, he, hc⟩, hb⟩
      have HX2 : Hid (∀ W v, Below w.heap.size w W → RowG (Value.int .u8) 0 W v (bx ++ [32, 49, 32, 48]) → Calls Tryd.prog 7 #[v] W fun e w' => (∃ (iv : Int) (cv : Value) (xs' : List (List Int)) (t : TypeId) (u : Value), e = .returned (.tuple #[.agg #[.int .i64 iv, cv], .iface t u]) ∧ CRow w' W.heap.size cv xs') ∧ Below W.heap.size W w') := fun W v hW hr => by
        refine (HRD.out W hW v _ hr (HBTS.out.append (by intro x hx; simp at hx; omega)) (by have := HBX.out; simp; omega)).mono ?_
        rintro e w' ⟨⟨cv, ov, he, hc, ho⟩, hb⟩
        obtain ⟨t, u, rfl⟩ := ho.iface (fun h => by have := HOK2.out; rw [h] at this; cases this)
        exact ⟨⟨_, cv, _, t, u, he, hc⟩, hb⟩
      have hxl : xss = [] ↔ xss.length = 0 := List.length_eq_zero_iff.symm
      have HXL := Lib.hid hxl; clear hxl
      cases hless : (readL (bx.take m1)).2.2.2.isOk with
      | false =>
        have HX3 : Hid (∀ W v, Below w.heap.size w W → RowG (Value.int .u8) 0 W v (bx.take m1) → Calls Tryd.prog 7 #[v] W fun e w' => (∃ (iv : Int) (cv : Value) (xs' : List (List Int)) (t : TypeId) (u : Value), e = .returned (.tuple #[.agg #[.int .i64 iv, cv], .iface t u]) ∧ CRow w' W.heap.size cv xs') ∧ Below W.heap.size W w') := fun W v hW hr => by
          refine (HRD.out W hW v _ hr (HBTS.out.take _) (by have := HBX.out; rw [List.length_take]; omega)).mono ?_
          rintro e w' ⟨⟨cv, ov, he, hc, ho⟩, hb⟩
          obtain ⟨t, u, rfl⟩ := ho.iface (fun h => by rw [h] at hless; cases hless)
          exact ⟨⟨_, cv, _, t, u, he, hc⟩, hb⟩
        clear hless HOK1 HOK2 HOK3
        go_wp2_with fail
        refine (HX1.out _ HWr HRX.out).mono ?_
        rintro e y1 ⟨⟨cv8, rfl, hC8⟩, hA⟩
        obtain ⟨a8, c8, rfl, hR8⟩ := hC8.rows
        have hA' := hA.alloc hA.size (.cells #[.int .i64 9, .slice a8 xss.length c8] 26)
        have HR8 := Lib.hid (hR8.keep ((Below.refl y1.heap.size y1).alloc (Nat.le_refl _) (.cells #[.int .i64 9, .slice a8 xss.length c8] 26)))
        go_wp2_with fail
        refine (HCB.out _ _ bx (RowG.keep HRX.out hA') HBX4.out).mono ?_
        rintro e y2 ⟨⟨v2, rfl, hown2⟩, hB⟩
        obtain ⟨a5, k5, c5, rfl, HK5, HO5⟩ := bopen hown2
        clear hown2
        have hBs := hB.size
        go_wp2_with (at_builtin; refine wpList_appStr rfl _ _ rfl y2 _ _ _ bx [32, 49, 32, 48] (by intro x hx; simp at hx; omega) HO5.out hBs (by rw [HK5.out]; have := HBX.out; simp; omega) rfl rfl ?_; intro v3 y3 hown3 hC; have hB3 := hB.trans hC; have HR3 := Lib.hid (own_rowG (d := 0) hown3); clear hown3)
        refine (HX2.out _ _ (HWr.trans ((hA'.trans (hB3.mono hA'.size)).mono HWr.size)) HR3.out).mono ?_
        rintro e y4 ⟨⟨iv6, cv6, xs6, t6, u6, rfl, hC6⟩, hD⟩
        obtain ⟨a6, c6, rfl, _⟩ := hC6.rows
        have hB4 := hB3.trans (hD.mono hB3.size)
        have hB4' := hB4.alloc hB4.size (.cells #[.int .i64 iv6, .slice a6 xs6.length c6] 26)
        go_wp2_with fail
        refine (HX3.out _ _ (HWr.trans ((hA'.trans (hB4'.mono hA'.size)).mono HWr.size)) (rowG_take (RowG.keep HRX.out (hA'.trans (hB4'.mono hA'.size))) m1 (by omega))).mono ?_
        rintro e y5 ⟨⟨iv7, cv7, xs7, t7, u7, rfl, hC7⟩, hE⟩
        obtain ⟨a7, c7, rfl, _⟩ := hC7.rows
        have hB5 := hB4'.trans (hE.mono hB4'.size)
        have hB5' := hB5.alloc hB5.size (.cells #[.int .i64 iv7, .slice a7 xs7.length c7] 26)
        obtain ⟨p1, p2⟩ := cells2 y1 _ _ _ _ hB5'
        have hWR := hbr.trans ((hA'.trans (hB5'.mono hA'.size)).mono hsr)
        obtain ⟨p3, p4⟩ := cells2 w2 _ _ _ _ (hx4b.trans (hWR.mono hx4b.size))
        have HRA := Lib.hid (RowsAt.keep HR8.out hB5')
        have HRB := Lib.hid (hR.keep (hx4.trans (hWR.mono hx4.size)))
        go_wp2_with fail
        refine (sameCNF_yes _ _ _ _ _ xss _ HRA.out HRB.out).mono ?_
        rintro e y6 ⟨rfl, hF⟩
        have hB6 := hB5'.trans (hF.mono hB5'.size)
        obtain ⟨p5, p6⟩ := cells2 w2 y6 _ _ _ (hx4b.trans ((hbr.trans ((hA'.trans (hB6.mono hA'.size)).mono hsr)).mono hx4b.size))
        go_wp2_with fail
        go_ret
        exact ⟨rfl, HWr.trans ((hA'.trans (hB6.mono hA'.size)).mono HWr.size)⟩
      | true =>
        have hx0 : xss.length = 0 := by
          rcases Nat.eq_zero_or_pos xss.length with h | h
          · exact h
          · have h5 := HOK3.out (fun e => by have := HXL.out.1 e; omega)
            have h6 : bx.length - 1 = m1 := by have := HMX.out; omega
            rw [h6, hless] at h5
            cases h5
        have HX3 : Hid (∀ W v, Below w.heap.size w W → RowG (Value.int .u8) 0 W v (bx.take m1) → Calls Tryd.prog 7 #[v] W fun e w' => (∃ (iv : Int) (cv : Value) (xs' : List (List Int)), e = .returned (.tuple #[.agg #[.int .i64 iv, cv], .nilIface]) ∧ CRow w' W.heap.size cv xs') ∧ Below W.heap.size W w') := fun W v hW hr => by
          refine (HRD.out W hW v _ hr (HBTS.out.take _) (by have := HBX.out; rw [List.length_take]; omega)).mono ?_
          rintro e w' ⟨⟨cv, ov, he, hc, ho⟩, hb⟩
          have hok := (isOk_iff _).1 hless
          rw [hok] at ho
          obtain rfl : ov = .nilIface := ho
          exact ⟨⟨_, cv, _, he, hc⟩, hb⟩
        have hxb : ((xss.length : Int) == 0) = true := beq_iff_eq.2 (by omega)
        have hxb2 : xss = [] := HXL.out.2 hx0
        have HX0 := Lib.hid hx0; clear hx0
        have HXB := Lib.hid hxb2; clear hxb2
        clear hless HOK1 HOK2 HOK3
        go_wp2_with fail
        refine (HX1.out _ HWr HRX.out).mono ?_
        rintro e y1 ⟨⟨cv8, rfl, hC8⟩, hA⟩
        obtain ⟨a8, c8, rfl, hR8⟩ := hC8.rows
        have hA' := hA.alloc hA.size (.cells #[.int .i64 9, .slice a8 xss.length c8] 26)
        have HR8 := Lib.hid (hR8.keep ((Below.refl y1.heap.size y1).alloc (Nat.le_refl _) (.cells #[.int .i64 9, .slice a8 xss.length c8] 26)))
        go_wp2_with fail
        refine (HCB.out _ _ bx (RowG.keep HRX.out hA') HBX4.out).mono ?_
        rintro e y2 ⟨⟨v2, rfl, hown2⟩, hB⟩
        obtain ⟨a5, k5, c5, rfl, HK5, HO5⟩ := bopen hown2
        clear hown2
        have hBs := hB.size
        go_wp2_with (at_builtin; refine wpList_appStr rfl _ _ rfl y2 _ _ _ bx [32, 49, 32, 48] (by intro x hx; simp at hx; omega) HO5.out hBs (by rw [HK5.out]; have := HBX.out; simp; omega) rfl rfl ?_; intro v3 y3 hown3 hC; have hB3 := hB.trans hC; have HR3 := Lib.hid (own_rowG (d := 0) hown3); clear hown3)
        refine (HX2.out _ _ (HWr.trans ((hA'.trans (hB3.mono hA'.size)).mono HWr.size)) HR3.out).mono ?_
        rintro e y4 ⟨⟨iv6, cv6, xs6, t6, u6, rfl, hC6⟩, hD⟩
        obtain ⟨a6, c6, rfl, _⟩ := hC6.rows
        have hB4 := hB3.trans (hD.mono hB3.size)
        have hB4' := hB4.alloc hB4.size (.cells #[.int .i64 iv6, .slice a6 xs6.length c6] 26)
        go_wp2_with fail
        refine (HX3.out _ _ (HWr.trans ((hA'.trans (hB4'.mono hA'.size)).mono HWr.size)) (rowG_take (RowG.keep HRX.out (hA'.trans (hB4'.mono hA'.size))) m1 (by omega))).mono ?_
        rintro e y5 ⟨⟨iv7, cv7, xs7, rfl, hC7⟩, hE⟩
        obtain ⟨a7, c7, rfl, _⟩ := hC7.rows
        have hB5 := hB4'.trans (hE.mono hB4'.size)
        have hB5' := hB5.alloc hB5.size (.cells #[.int .i64 iv7, .slice a7 xs7.length c7] 26)
        obtain ⟨p1, p2⟩ := cells2 y1 _ _ _ _ hB5'
        have hWR := hbr.trans ((hA'.trans (hB5'.mono hA'.size)).mono hsr)
        obtain ⟨p3, p4⟩ := cells2 w2 _ _ _ _ (hx4b.trans (hWR.mono hx4b.size))
        have HRA := Lib.hid (RowsAt.keep HR8.out hB5')
        have HRB := Lib.hid (hR.keep (hx4.trans (hWR.mono hx4.size)))
        go_wp2_with fail
        refine (sameCNF_yes _ _ _ _ _ xss _ HRA.out HRB.out).mono ?_
        rintro e y6 ⟨rfl, hF⟩
        have hB6 := hB5'.trans (hF.mono hB5'.size)
        obtain ⟨p5, p6⟩ := cells2 w2 y6 _ _ _ (hx4b.trans ((hbr.trans ((hA'.trans (hB6.mono hA'.size)).mono hsr)).mono hx4b.size))
        go_wp2_with fail
        go_ret
        exact ⟨rfl, HWr.trans ((hA'.trans (hB6.mono hA'.size)).mono HWr.size)⟩

set_option maxHeartbeats 2000000 in
theorem lawBlanks (A : Nat → Addr) (a : Option Addr) (c : Nat) (cs : List Int) (ga : Option Addr) (gc : Nat) (gs : List Int) (w : World) (hS : Sents8 w A) (ht : Tabs w) (hv : RowAt w a c cs) (hcs : ∀ y ∈ cs, -9223372036854775808 ≤ y ∧ y ≤ 9223372036854775807) (hgv : RowAt w ga gc gs) (hgs : ∀ y ∈ gs, -9223372036854775808 ≤ y ∧ y ≤ 9223372036854775807) :
    Calls Tryd.prog 5 #[.slice a cs.length c, .slice ga gs.length gc] w fun e w' => e = .returned (.bool true) ∧ Below w.heap.size w w' := by
  have HF := Lib.hid (first4_any A w hS)
  by_cases hn : 60 < cs.length
  · have hnb : decide ((60 : Int) < cs.length) = true := by simp; omega
    clear hS hv hcs ht hgv hgs
    generalize cs.length = n at *
    generalize gs.length = gn at *
    go_enter Tryd.func5, Tryd.ntmps5
    go_wp2_with (go_at_call 6; refine HF.out.mono ?_; rintro e w1 ⟨rfl, hb1⟩)
    go_ret
    exact ⟨rfl, hb1⟩
  · have hnb : decide ((60 : Int) < cs.length) = false := by simp; omega
    by_cases hg0 : gs.length = 0
    · clear hS hv hcs ht hgv hgs hn
      rw [hg0]
      clear hg0
      generalize cs.length = n at *
      go_enter Tryd.func5, Tryd.ntmps5
      go_wp2_with (go_at_call 6; refine HF.out.mono ?_; rintro e w1 ⟨rfl, hb1⟩)
      go_ret
      exact ⟨rfl, hb1⟩
    · by_cases hg1 : 100 < gs.length
      · have hgb : ((gs.length : Int) == 0) = false := beq_eq_false_iff_ne.2 (by omega)
        have hgc : decide ((100 : Int) < gs.length) = true := by simp; omega
        clear hS hv hcs ht hgv hgs hn hg0
        generalize cs.length = n at *
        generalize gs.length = gn at *
        go_enter Tryd.func5, Tryd.ntmps5
        go_wp2_with (go_at_call 6; refine HF.out.mono ?_; rintro e w1 ⟨rfl, hb1⟩)
        go_ret
        exact ⟨rfl, hb1⟩
      · exact blanks_in A a c cs ga gc gs w hS ht hv hcs (by omega) hgv hgs (by omega) (by omega)
end Go.Proofs.YteihaanpllmieaaDoor
