/- The document's ReadAag, behind its first word. Conditions: the slice reads as bytes, few of them. -/
import Derived.Test.YtcefeidfmnggaaaDoorRga
import Derived.Test.YtcefeidfmnggaaaDoorRgp
namespace Go.Proofs.YtcefeidfmnggaaaDoor
open Go.RowKit

theorem map_hn (hs : List (Int × Int)) (j : Nat) : (hs.map (·.1)).getD j 0 = hn hs j := by
  unfold hn
  simp only [List.getD, List.getElem?_map]
  cases hs[j]? <;> rfl
/-- The five numbers, where each stands. -/
def Five (ws : List Wd) (e : Int) (hs : List (Int × Int)) : Prop := ∀ j, j < hs.length → hp hs j = posL ws (j + 1) e ∧ j + 1 < ws.length ∧ 0 ≤ hn hs j ∧ hn hs j < 1000000000
theorem Five.snoc {ws : List Wd} {e : Int} {hs : List (Int × Int)} (h : Five ws e hs) {n : Int} (hk : hs.length + 1 < ws.length) (h0 : 0 ≤ n) (h1 : n < 1000000000) : Five ws e (hs ++ [(n, posL ws (hs.length + 1) e)]) := by
  intro j hj
  rw [hn_snoc, hp_snoc]
  by_cases he : j = hs.length
  · rw [if_pos he, if_pos he, he]; exact ⟨rfl, hk, h0, h1⟩
  · rw [if_neg he, if_neg he]; simp at hj; exact h j (by omega)

set_option maxRecDepth 20000 in
set_option maxHeartbeats 64000000 in
theorem refA_main (v : Value) (xs : List Int) (w : World) (hv : RowG (Value.int .u8) 0 w v xs) (hb : Bts xs) (hnx : xs.length ≤ 4000) (h : 0 < (wordsL false xs).length ∧ fst (wordsL false xs) 0 = true ∧ txt (wordsL false xs) 0 = [97, 97, 103]) :
    Calls Tryd.prog 8 #[v] w (RefP w (readR xs.length (wordsL false xs))) := by
  obtain ⟨hok, hwn⟩ := wordsF_ok hb hnx
  obtain ⟨hz, hb3, hs3⟩ := three_zb w
  have HSP := Lib.hid (refSplit_row v xs false _ (hv.keep hb3) hb (by omega))
  have HTX := Lib.hid (fun u k W (hr : WRow W u (wordsL false xs)) => refText_any u (wordsL false xs) k xs.length W hr)
  have HCT := Lib.hid (fun u k f W (hr : WRow W u (wordsL false xs)) => refCount_any u (wordsL false xs) k f W hr hok)
  obtain ⟨a, cap, rfl, hcl, hcm, _⟩ := hv
  unfold maxLen at hcm
  have HOK := Lib.hid hok
  have HHD := Lib.hid (headR_y0 (e := xs.length) h)
  have HH := Lib.hid h
  have HZ := Lib.hid hz
  have HB3 := Lib.hid hb3
  have HS3 := Lib.hid hs3
  have HFD : Hid (∀ k, fiveR (xs.length : Int) 5 ((wordsL false xs).drop 1) [] = .bad k → readR (xs.length : Int) (wordsL false xs) = badC (false, k)) := fun k hk => readR_head (by rw [headR_y0 h, hk])
  have HFG : Hid (∀ hs ws1, fiveR (xs.length : Int) 5 ((wordsL false xs).drop 1) [] = .got hs ws1 → readR (xs.length : Int) (wordsL false xs) = match checkR hs with
    | some f => badC f
    | none => contI (xs.length : Int) (hn hs 1).toNat (hn hs 0).toNat (hn hs 3).toNat (hn hs 4).toNat (hn hs 1).toNat 0 ws1) := fun hs ws1 hk => by unfold readR; rw [headR_y0 h, hk]; rfl
  clear hb hok h hz hb3 hs3
  generalize readR (xs.length : Int) (wordsL false xs) = F at *
  generalize wordsL false xs = ws at *
  generalize xs.length = n at *
  have hnl : decide ((1048576 : Int) < n) = false := by simp; omega
  unfold three at *
  unfold faultV at HTX
  go_enter Tryd.func8, Tryd.ntmps8
  go_wp2_with fail
  refine HSP.out.mono ?_
  rintro e1 w1 ⟨⟨u, rfl, hr⟩, hb1⟩
  have HR := Lib.hid hr
  have HB1 := Lib.hid (show Below (w.heap.size + 3) _ w1 from HS3.out ▸ hb1)
  obtain ⟨au, cu, rfl, hcu1, hcu2, hwo⟩ := hr
  unfold maxLen at hcu2
  have HZW : Hid (∀ W, Below w1.heap.size w1 W → ZB W w.heap.size ∧ Below w.heap.size w W) := fun W hW => ⟨HZ.out.low (HB1.out.trans (hW.mono (by have := HB1.out.size; rw [HS3.out] at this; exact this))), (HB3.out.trans (HB1.out.mono (by omega))).trans (hW.mono (by have := HB1.out.size; rw [HS3.out] at this; omega))⟩
  obtain ⟨hl0, hf, ht⟩ := HH.out
  obtain ⟨g, rfl, hw⟩ := hwo.resolve_left (by omega)
  have g0 : w1.cell? ⟨g, 0, none⟩ = some (.string ⟨#[97, 97, 103]⟩) := by have := hw.text 0 (by omega); rw [Nat.zero_mul] at this; rw [this, show (ws.getD 0 wd0).1 = [97, 97, 103] from ht, aag_str]
  have g2 : w1.cell? ⟨g, 2, none⟩ = some (.bool true) := by have := hw.fst 0 (by omega); rw [Nat.zero_mul] at this; rw [this, show (ws.getD 0 wd0).2.2 = true from hf]
  clear ht hf hwo
  have HW := Lib.hid hw
  have hg := hw.sq
  have HCU : Hid (ws.length ≤ cu) := hcu1
  have HHL : Hid (0 < ws.length) := hl0
  clear hw
  generalize hm : ws.length = m at *
  have HM := Lib.hid hm; clear hm
  have hm0 : ((m : Int) == 0) = false := by simp; omega
  have hm1 : (0 : Int) < m := by omega
  go_wp2_with fail
  clear g0 g2 hm0 hm1 HH
  go_loopw [6, 7] (fun nv iv wr => ∃ (k : Nat) (hs : List (Int × Int)), k ≤ 5 ∧ iv = .int .i64 ((k : Int) + 1) ∧ Hid (wr.ownsRow w1.heap.size 3 1 nv k ((hs.map (·.1)).map (Value.int .i64)) ∧ hs.length = k ∧ Below w1.heap.size w1 wr ∧ Five ws n hs ∧ fiveR (n : Int) (5 - k) (ws.drop (1 + k)) hs = fiveR (n : Int) 5 (ws.drop 1) [])) (fun _ iv _ => 7 - (intOf iv).toNat)
  case atStart => exact ⟨0, [], by omega, rfl, World.ownsRow_nil _ _ _ _, rfl, Below.refl _ _, fun j hj => absurd hj (Nat.not_lt_zero _), rfl⟩
  case round =>
    obtain ⟨k, hs, hk, rfl, HQ⟩ := hrel
    obtain ⟨hown, hlk, hbr, hfive, hfr⟩ := HQ.out
    clear HQ
    by_cases hlt : k < 5
    · have hsr := hbr.size
      have HCC := Lib.hid (HCT.out _ (k + 1) false wr (HR.out.keep hbr))
      rw [show (((k + 1 : Nat)) : Int) = (k : Int) + 1 by push_cast; rfl] at HCC
      obtain ⟨r, hr5⟩ : ∃ r, 5 - k = r + 1 := ⟨5 - k - 1, by omega⟩
      rw [hr5, fiveR] at hfr
      cases hc : cntW ws (k + 1) false with
      | none =>
        rw [hc] at HCC
        simp only [Option.getD_none, Option.isSome_none] at HCC
        rw [show 1 + k = k + 1 by omega, numb_none hc] at hfr
        have HF := Lib.hid (HFD.out _ hfr.symm)
        have HTT := Lib.hid (fun W (hW : Below w1.heap.size w1 W) => HTX.out _ (k + 1) W (HR.out.keep hW))
        rw [show (((k + 1 : Nat)) : Int) = (k : Int) + 1 by push_cast; rfl] at HTT
        have HBR := Lib.hid hbr
        generalize posL ws (k + 1) (n : Int) = ps at *
        clear hfr hc hown hlk hbr hfive HTX HCT HFD HFG hr5 HSP HHD HOK
        go_wp2_with fail
        refine HCC.out.mono ?_
        rintro e2 w2 ⟨rfl, hb2⟩
        have HB2 := Lib.hid (HBR.out.trans (hb2.mono hsr))
        obtain ⟨a0, a1, a2, af, asz⟩ := (HZW.out w2 HB2.out).1.2.2
        go_wp2_with fail
        go_region_with (go_at_call 21; refine (HTT.out _ (by first | exact HB2.out | exact HB2.out.drew)).mono ?_; rintro e3 w3 ⟨rfl, hb3⟩; have hbw : Below w1.heap.size w1 w3 := HB2.out.trans (Below.mono (B := w2.heap.size) (by first | exact hb3 | exact (Below.refl _ _).drew.trans hb3) HB2.out.size); have HZ3 := Lib.hid (HZW.out w3 hbw); obtain ⟨⟨x0, x1, x2, xf, xsz⟩, ⟨y0, y1, y2, yf, ysz⟩, ⟨z0, z1, z2, zf, zsz⟩⟩ := HZ3.out.1; clear hbw hb3)
        all_goals
          go_wp2_with fail
          exact bodyPost_ret (v := .tuple #[circV 0 (.slice none 0 0) (.slice none 0 0), faultV 101 true ps]) (finB_res (c := 101) (k := ps) HZ3.out.1 rfl rfl) rfl (finB_post HF.out rfl HZ3.out.2)
      | some x =>
        rw [hc] at HCC
        simp only [Option.getD_some, Option.isSome_some] at HCC
        obtain ⟨hkw, hx0, hx1⟩ := cntW_in hc
        rw [show 1 + k = k + 1 by omega, numb_some hc, if_neg (show ¬ maxI < x by unfold maxI; omega)] at hfr
        simp only at hfr
        have hfs := hfive.snoc (n := x) (by omega) hx0 hx1
        rw [hlk] at hfs
        obtain ⟨ao, co, rfl, hco1, hco⟩ := own_shape hown
        unfold maxLen at hco
        have HA : Hid (∀ w2, Below wr.heap.size wr w2 → w2.ownsRow w1.heap.size 3 1 (.slice ao k co) k ((hs.map (·.1)).map (Value.int .i64)) ∧ w1.heap.size ≤ w2.heap.size ∧ ∀ v' w6, w6.ownsRow w1.heap.size 3 1 v' (k + 1) ((hs.map (·.1)).map (Value.int .i64) ++ [.int .i64 x]) → App w1.heap.size w2 w6 (.slice ao k co) v' →
            ∃ (k' : Nat) (hs' : List (Int × Int)), k' ≤ 5 ∧ Value.int .i64 ((k : Int) + 1 + 1) = .int .i64 ((k' : Int) + 1) ∧ Hid (w6.ownsRow w1.heap.size 3 1 v' k' ((hs'.map (·.1)).map (Value.int .i64)) ∧ hs'.length = k' ∧ Below w1.heap.size w1 w6 ∧ Five ws n hs' ∧ fiveR (n : Int) (5 - k') (ws.drop (1 + k')) hs' = fiveR (n : Int) 5 (ws.drop 1) [])) := fun w2 hb2 =>
          ⟨own_keep hown hb2, Nat.le_trans hsr hb2.size, fun v' w6 hown6 hap => ⟨k + 1, hs ++ [(x, posL ws (k + 1) n)], by omega, by push_cast; rfl, by simpa using hown6, by simp [hlk], (hbr.trans (hb2.mono hsr)).trans hap.below, hfs, by rw [show 5 - (k + 1) = r by omega, show 1 + (k + 1) = k + 1 + 1 by omega]; exact hfr⟩⟩
        clear hfr hc hown hlk hbr hfive HTX HCT HFD HFG hr5 HSP HHD HOK hfs hx0 hx1 hkw
        go_wp2_with fail
        refine HCC.out.mono ?_
        rintro e2 w2 ⟨rfl, hb2⟩
        obtain ⟨hown2, hs2, hrel2⟩ := HA.out w2 hb2
        have HO2 := Lib.hid hown2
        have HRL := Lib.hid hrel2
        clear hown2 hrel2 hb2
        go_wp2_with (at_builtin; refine wpList_appV 25 3 (.int .i64 0) 8 Tryd.underlying25 infoInt rfl (by decide) rfl _ _ rfl w2 w1.heap.size _ k ((hs.map (·.1)).map (Value.int .i64)) (.int .i64 x) rfl HO2.out hs2 (by omega) _ rfl rfl rfl ?_; intro v' w6 hown6 hap; have hrel6 := HRL.out v' w6 hown6 hap; obtain ⟨a', c', rfl, _, _⟩ := own_shape hown6; clear hown6 hap)
        go_roundw
        case rel => exact hrel6
        case measure => simp [intOf]; omega
    · have hk5 : k = 5 := by omega
      subst hk5
      rename World => w5
      have hF5 : fiveR (n : Int) 5 (ws.drop 1) [] = .got hs (ws.drop 6) := hfr.symm
      have hFF := HFG.out hs _ hF5
      obtain ⟨gn, cn, rfl, hgn1, hgn2, hgn3, hgn4⟩ := own_some hown (by omega)
      unfold maxLen at hgn4
      have HLM := Lib.hid (limits_any _ (hs.map (·.1)) w5 (own_row hown) (by simp [hlk]) (by rw [map_hn]; exact (hfive 1 (by omega)).2.2.1) (by rw [map_hn]; exact (hfive 1 (by omega)).2.2.2) (by rw [map_hn]; exact (hfive 4 (by omega)).2.2.1) (by rw [map_hn]; exact (hfive 4 (by omega)).2.2.2))
      rw [map_hn, map_hn, map_hn] at HLM
      have hcell : ∀ j, j < 5 → w5.cell? ⟨gn, j, none⟩ = some (.int .i64 (hn hs j)) := fun j hj => by
        have := hown.cells (g := gn) rfl j (.int .i64 (hn hs j)) (by rw [← map_hn, List.getElem?_map, List.getD, List.getElem?_eq_getElem (show j < (hs.map (·.1)).length by simp; omega)]; rfl)
        rwa [add0] at this
      have n0 := hcell 0 (by omega)
      have n1 := hcell 1 (by omega)
      have n2 := hcell 2 (by omega)
      have n3 := hcell 3 (by omega)
      have n4 := hcell 4 (by omega)
      obtain ⟨p0, l0, s0, t0⟩ := hfive 0 (by omega)
      obtain ⟨p1, l1, s1, t1⟩ := hfive 1 (by omega)
      obtain ⟨p2, l2, s2, t2⟩ := hfive 2 (by omega)
      obtain ⟨p3, l3, s3, t3⟩ := hfive 3 (by omega)
      obtain ⟨p4, l4, s4, t4⟩ := hfive 4 (by omega)
      unfold checkR at hFF
      rw [p0, p1, p2, p3, p4] at hFF
      unfold limR at HLM
      have hsr := hbr.size
      have HB5 := Lib.hid hbr
      have HGN : Hid (gn < w5.heap.size ∧ w1.heap.size ≤ gn) := ⟨hgn2, hgn1⟩
      have HW5 := Lib.hid (HW.out.keep hbr)
      have HTT := Lib.hid (fun k W (hW : Below w1.heap.size w1 W) => HTX.out _ k W (HR.out.keep hW))
      clear hfr hF5 hown hfive hcell hgn1 p0 p1 p2 p3 p4 HFD HFG HHD hlk hlt hk hbr HTX
      rw [HM.out] at l0 l1 l2 l3 l4
      generalize hn hs 0 = M at *
      generalize hn hs 1 = I at *
      generalize hn hs 2 = L at *
      generalize hn hs 3 = O at *
      generalize hn hs 4 = G at *
      by_cases hlim : ∃ kk : Nat, kk < m ∧ (if 8000 < I then (2 : Int) else if 8000 < I + G then 5 else if 8000 < O then 4 else -1) = (kk : Int) ∧ F = badC (true, posL ws kk n)
      · obtain ⟨kk, hkm, hkk, hF⟩ := hlim
        rw [hkk] at HLM
        have HF := Lib.hid hF
        have x1 : w5.cell? ⟨g, kk * 3 + 1, none⟩ = some (.int .i64 (posL ws kk n)) := by rw [HW5.out.pos kk (by rw [HM.out]; exact hkm), posL, if_pos (by rw [HM.out]; exact hkm)]
        have HPL := Lib.hid (fun W => placed_any 102 (posL ws kk n) W (by omega))
        unfold faultV at HPL
        have hg5 := HW5.out.sq
        clear hF hkk hFF
        generalize posL ws kk (n : Int) = ps at *
        have hkc : (kk : Int) < m := by omega
        have hk0 : decide ((0 : Int) ≤ (kk : Int)) = true := by simp
        go_wp2_with fail
        refine HLM.out.mono ?_
        rintro e2 w2 ⟨rfl, hb2⟩
        have HB2 := Lib.hid (HB5.out.trans (hb2.mono hsr))
        have x1' := (hb2.cell (p := ⟨g, kk * 3 + 1, none⟩) hg5).trans x1
        have hg2 := Nat.lt_of_lt_of_le hg5 hb2.size
        clear hb2
        obtain ⟨a0, a1, a2, af, asz⟩ := (HZW.out w2 HB2.out).1.2.2
        go_wp2_with fail
        go_region_with (go_at_call 16; refine (HPL.out _).mono ?_; rintro e3 w3 ⟨rfl, hb3⟩; have hbw : Below w1.heap.size w1 w3 := HB2.out.trans (Below.mono (B := w2.heap.size) (by first | exact hb3 | exact (Below.refl _ _).drew.trans hb3) HB2.out.size); have HZ3 := Lib.hid (HZW.out w3 hbw); obtain ⟨⟨x0, x1, x2, xf, xsz⟩, ⟨y0, y1, y2, yf, ysz⟩, ⟨z0, z1, z2, zf, zsz⟩⟩ := HZ3.out.1; clear hbw hb3)
        all_goals
          go_wp2_with fail
          exact bodyPost_ret (v := .tuple #[circV 0 (.slice none 0 0) (.slice none 0 0), faultV 102 true ps]) (finB_res (c := 102) (k := ps) HZ3.out.1 rfl rfl) rfl (finB_post HF.out rfl HZ3.out.2)
      · have hn1 : ¬ 8000 < I := fun h => hlim ⟨2, by omega, by rw [if_pos h]; rfl, by rw [if_pos h] at hFF; exact hFF⟩
        have hn2 : ¬ 8000 < I + G := fun h => hlim ⟨5, by omega, by rw [if_neg hn1, if_pos h]; rfl, by rw [if_neg hn1, if_pos h] at hFF; exact hFF⟩
        have hn3 : ¬ 8000 < O := fun h => hlim ⟨4, by omega, by rw [if_neg hn1, if_neg hn2, if_pos h]; rfl, by rw [if_neg hn1, if_neg hn2, if_pos h] at hFF; exact hFF⟩
        rw [if_neg hn1, if_neg hn2, if_neg hn3] at hFF HLM
        clear hlim
        have hgm : decide ((0 : Int) ≤ -1) = false := by decide
        by_cases hMI : M = I + G
        · rw [if_neg (fun h => h hMI)] at hFF
          subst hMI
          have hne : (I + G != I + G) = false := by simp
          by_cases hL0 : L = 0
          · subst hL0
            rw [if_neg (fun h => h rfl)] at hFF
            simp only at hFF
            obtain ⟨In, rfl⟩ : ∃ i : Nat, I = (i : Int) := ⟨I.toNat, by omega⟩
            obtain ⟨On, rfl⟩ : ∃ i : Nat, O = (i : Int) := ⟨O.toNat, by omega⟩
            obtain ⟨Gn, rfl⟩ : ∃ i : Nat, G = (i : Int) := ⟨G.toNat, by omega⟩
            have hIb : In + Gn ≤ 8000 := by omega
            have hOb : On ≤ 8000 := by omega
            have hm4 : m ≤ 4000 := by omega
            clear hn1 hn2 hn3 hne
            have hFF : F = contI (n : Int) In (In + Gn) On Gn In 0 (ws.drop 6) := by
              rw [hFF]
              congr 1
            have hne : ((In : Int) + (Gn : Int) != (In : Int) + (Gn : Int)) = false := by simp
            go_wp2_with fail
            refine HLM.out.mono ?_
            rintro e2 w2 ⟨rfl, hb2⟩
            have HB2 := Lib.hid (HB5.out.trans (hb2.mono hsr))
            have hgl := Nat.lt_of_lt_of_le hgn2 hb2.size
            have n0 := (hb2.cell (p := ⟨gn, 0, none⟩) hgn2).trans n0
            have n1 := (hb2.cell (p := ⟨gn, 1, none⟩) hgn2).trans n1
            have n2 := (hb2.cell (p := ⟨gn, 2, none⟩) hgn2).trans n2
            have n3 := (hb2.cell (p := ⟨gn, 3, none⟩) hgn2).trans n3
            have n4 := (hb2.cell (p := ⟨gn, 4, none⟩) hgn2).trans n4
            have HW2 := Lib.hid (HW5.out.keep hb2)
            clear hb2
            go_wp2_with fail
            go_quiet (fail)
            have HW7 := Lib.hid (HW2.out.keep (below_drewN (Below.refl _ _) nq))
            have n0 := (World.cell?_drewN w2 nq ⟨gn, 0, none⟩).trans n0
            have n1 := (World.cell?_drewN w2 nq ⟨gn, 1, none⟩).trans n1
            have n2 := (World.cell?_drewN w2 nq ⟨gn, 2, none⟩).trans n2
            have n3 := (World.cell?_drewN w2 nq ⟨gn, 3, none⟩).trans n3
            have n4 := (World.cell?_drewN w2 nq ⟨gn, 4, none⟩).trans n4
            have hgl : gn < (w2.drewN nq).heap.size := hgl
            have HB7 := Lib.hid (below_drewN HB2.out nq)
            generalize w2.drewN nq = w7 at *
            clear HLM hgm hne HB2 HW2 HW5 HB5 hsr hgn2 hgn3 hgn4
            go_wp2_with fail
            have HOLD : Hid (∀ W, Below w7.heap.size w7 W → (W.cell? ⟨gn, 0, none⟩ = some (.int .i64 ((In : Int) + (Gn : Int))) ∧ W.cell? ⟨gn, 1, none⟩ = some (.int .i64 (In : Int)) ∧ W.cell? ⟨gn, 3, none⟩ = some (.int .i64 (On : Int)) ∧ W.cell? ⟨gn, 4, none⟩ = some (.int .i64 (Gn : Int)) ∧ gn < W.heap.size) ∧ WRow W (.slice (some ⟨g, 0, none⟩) m cu) ws ∧ Hid (Below w1.heap.size w1 W) ∧ WCells W g ws) := fun W hW =>
              ⟨⟨(hW.cell (p := ⟨gn, 0, none⟩) hgl).trans n0, (hW.cell (p := ⟨gn, 1, none⟩) hgl).trans n1, (hW.cell (p := ⟨gn, 3, none⟩) hgl).trans n3, (hW.cell (p := ⟨gn, 4, none⟩) hgl).trans n4, Nat.lt_of_lt_of_le hgl hW.size⟩, HR.out.keep (HB7.out.trans (hW.mono HB7.out.size)), HB7.out.trans (hW.mono HB7.out.size), HW7.out.keep hW⟩
            have HT8 : Hid (T3 (w7.alloc (.cells #[.int .i64 (In : Int), .slice none 0 0, .slice none 0 0] 27)) w7.heap.size (.int .i64 (In : Int)) (.slice none 0 0) (.slice none 0 0)) := T3.start _ _ _ _ _
            have HB8 : Hid (Below w7.heap.size w7 (w7.alloc (.cells #[.int .i64 (In : Int), .slice none 0 0, .slice none 0 0] 27))) := (Below.refl _ _).alloc (Nat.le_refl _) _
            have HF8 := Lib.hid hFF.symm
            clear n0 n1 n2 n3 n4 hFF HW7
            generalize hq7 : w7.heap.size = q7 at *
            generalize w7.alloc (.cells #[.int .i64 (In : Int), .slice none 0 0, .slice none 0 0] 27) = w8 at *
            have HQ7 : Hid (w7.heap.size = q7) := hq7
            clear hq7 hgl
            go_loopw [12, 13] (fun av iv wr => ∃ k : Nat, k ≤ In ∧ av = .int .i64 (6 + (k : Int)) ∧ iv = .int .i64 (k : Int) ∧ Hid (Below q7 w7 wr ∧ T3 wr q7 (.int .i64 (In : Int)) (.slice none 0 0) (.slice none 0 0) ∧ contI (n : Int) In (In + Gn) On Gn (In - k) k (ws.drop (6 + k)) = F)) (fun _ iv _ => In - (intOf iv).toNat)
            case atStart => exact ⟨0, Nat.zero_le _, rfl, rfl, HB8.out, HT8.out, HF8.out⟩
            case round =>
              obtain ⟨k, hk, rfl, rfl, HH⟩ := hrel
              clear HB8 HT8 HF8
              obtain ⟨hbr, ht3, hfr⟩ := HH.out
              clear HH
              obtain ⟨⟨n0, n1, n3, n4, hgl⟩, hwr, HBW, hwc⟩ := HOLD.out wr hbr
              by_cases hlt : k < In
              · have HCC := Lib.hid (HCT.out _ (6 + k) true wr hwr)
                have HTT' := Lib.hid (fun W hW => HTT.out (6 + k) W hW)
                rw [show (((6 + k : Nat)) : Int) = 6 + (k : Int) by push_cast; rfl] at HCC HTT'
                obtain ⟨r, hr5⟩ : ∃ r, In - k = r + 1 := ⟨In - k - 1, by omega⟩
                rw [hr5, contI] at hfr
                have HBS : Hid (∀ w9, Below wr.heap.size wr w9 → Hid (Below w1.heap.size w1 w9)) := fun w9 h9 => HBW.out.trans (h9.mono HBW.out.size)
                cases hc : cntW ws (6 + k) true with
                | none =>
                  rw [hc] at HCC
                  simp only [Option.getD_none, Option.isSome_none] at HCC
                  rw [just_none hc] at hfr
                  have HF := Lib.hid hfr.symm
                  generalize posL ws (6 + k) (n : Int) = ps at *
                  clear hfr hc hbr ht3 hr5 hwr hwc HOLD HTT HCT HSP HOK
                  go_wp2_with fail
                  refine HCC.out.mono ?_
                  rintro e3 w9 ⟨rfl, hb9⟩
                  have HB9 := HBS.out w9 hb9
                  clear n0 n1 n3 n4 hb9
                  obtain ⟨a0, a1, a2, af, asz⟩ := (HZW.out w9 HB9.out).1.2.2
                  go_wp2_with fail
                  go_region_with (go_at_call 21; refine (HTT'.out _ (by first | exact HB9.out | exact HB9.out.drew)).mono ?_; rintro e3 w3 ⟨rfl, hb3⟩; have hbw : Below w1.heap.size w1 w3 := HB9.out.trans (Below.mono (B := w9.heap.size) (by first | exact hb3 | exact (Below.refl _ _).drew.trans hb3) HB9.out.size); have HZ3 := Lib.hid (HZW.out w3 hbw); obtain ⟨⟨x0, x1, x2, xf, xsz⟩, ⟨y0, y1, y2, yf, ysz⟩, ⟨z0, z1, z2, zf, zsz⟩⟩ := HZ3.out.1; clear hbw hb3)
                  all_goals
                    go_wp2_with fail
                    exact bodyPost_ret (v := .tuple #[circV 0 (.slice none 0 0) (.slice none 0 0), faultV 101 true ps]) (finB_res (c := 101) (k := ps) HZ3.out.1 rfl rfl) rfl (finB_post HF.out rfl HZ3.out.2)
                | some x =>
                  rw [hc] at HCC
                  simp only [Option.getD_some, Option.isSome_some] at HCC
                  rw [just_some hc] at hfr
                  by_cases hx : x = 2 * ((k : Int) + 1)
                  · rw [if_pos hx] at hfr
                    simp only at hfr
                    subst hx
                    have hne : (2 * ((k : Int) + 1) != 2 * ((k : Int) + 1)) = false := by simp
                    have HRL : Hid (∀ w9, Below wr.heap.size wr w9 → ∃ k' : Nat, k' ≤ In ∧ Value.int .i64 (6 + (k : Int) + 1) = .int .i64 (6 + (k' : Int)) ∧ Value.int .i64 ((k : Int) + 1) = .int .i64 (k' : Int) ∧ Hid (Below q7 w7 w9 ∧ T3 w9 q7 (.int .i64 (In : Int)) (.slice none 0 0) (.slice none 0 0) ∧ contI (n : Int) In (In + Gn) On Gn (In - k') k' (ws.drop (6 + k')) = F)) := fun w9 h9 =>
                      ⟨k + 1, by omega, congrArg (Value.int .i64) (by omega), congrArg (Value.int .i64) (by omega), hbr.trans (h9.mono (by have := hbr.size; have := HQ7.out; omega)), ht3.chg (S := []) (Chg.of_below h9) (by simp), by rw [show In - (k + 1) = r by omega, show 6 + (k + 1) = 6 + k + 1 by omega]; exact hfr⟩
                    clear hfr hc hbr ht3 hr5 hwr hwc HOLD HTT HCT HSP HOK HBS HTT' HBW
                    have hk9 : (k : Int) ≤ 8000 := by omega
                    go_wp2_with fail
                    refine HCC.out.mono ?_
                    rintro e3 w9 ⟨rfl, hb9⟩
                    have HR9 := Lib.hid (HRL.out w9 hb9)
                    clear n0 n1 n3 n4 hb9 hgl
                    go_wp2_with fail
                    go_roundw
                    case rel => exact HR9.out
                    case measure => simp [intOf]; omega
                  · rw [if_neg hx] at hfr
                    simp only at hfr
                    have hne : (x != 2 * ((k : Int) + 1)) = true := by simpa using hx
                    have HF := Lib.hid hfr.symm
                    generalize posL ws (6 + k) (n : Int) = ps at *
                    clear hfr hc hbr ht3 hr5 hwr hwc HOLD HTT HCT HSP HOK hx
                    have hk9 : (k : Int) ≤ 8000 := by omega
                    go_wp2_with fail
                    refine HCC.out.mono ?_
                    rintro e3 w9 ⟨rfl, hb9⟩
                    have HB9 := HBS.out w9 hb9
                    clear n0 n1 n3 n4 hb9
                    obtain ⟨a0, a1, a2, af, asz⟩ := (HZW.out w9 HB9.out).1.2.2
                    go_wp2_with fail
                    go_region_with (go_at_call 21; refine (HTT'.out _ (by first | exact HB9.out | exact HB9.out.drew)).mono ?_; rintro e3 w3 ⟨rfl, hb3⟩; have hbw : Below w1.heap.size w1 w3 := HB9.out.trans (Below.mono (B := w9.heap.size) (by first | exact hb3 | exact (Below.refl _ _).drew.trans hb3) HB9.out.size); have HZ3 := Lib.hid (HZW.out w3 hbw); obtain ⟨⟨x0, x1, x2, xf, xsz⟩, ⟨y0, y1, y2, yf, ysz⟩, ⟨z0, z1, z2, zf, zsz⟩⟩ := HZ3.out.1; clear hbw hb3)
                    all_goals
                      go_wp2_with fail
                      exact bodyPost_ret (v := .tuple #[circV 0 (.slice none 0 0) (.slice none 0 0), faultV 101 true ps]) (finB_res (c := 101) (k := ps) HZ3.out.1 rfl rfl) rfl (finB_post HF.out rfl HZ3.out.2)
              · have hkI : In = k := by omega
                subst hkI
                rename World => wo
                rw [Nat.sub_self, contI] at hfr
                clear hk hlt hwr hwc
                have HS1 : Hid (Below q7 w7 wo ∧ T3 wo q7 (.int .i64 (In : Int)) (.slice none 0 0) (.slice none 0 0) ∧ q7 + 1 ≤ wo.heap.size ∧ contO (n : Int) In (In + Gn) Gn On (ws.drop (6 + In)) [] = F) := ⟨hbr, ht3, ht3.2.2.2.2, hfr⟩
                clear hbr ht3 hfr
                go_wp2_with fail
                clear n0 n1 n3 n4 hgl HBW
                go_loopw [12, 16] (fun av iv wr => ∃ (k : Nat) (v : Value) (os : List Int), k ≤ On ∧ av = .int .i64 (6 + (In : Int) + (k : Int)) ∧ iv = .int .i64 (k : Int) ∧ Hid (Below q7 w7 wr ∧ T3 wr q7 (.int .i64 (In : Int)) (.slice none 0 0) v ∧ wr.ownsRow (q7 + 1) 3 1 v k (os.map (Value.int .i64)) ∧ os.length = k ∧ q7 + 1 ≤ wr.heap.size ∧ contO (n : Int) In (In + Gn) Gn (On - k) (ws.drop (6 + In + k)) os = F)) (fun _ iv _ => On - (intOf iv).toNat)
                case atStart => exact ⟨0, _, [], Nat.zero_le _, by simp, rfl, HS1.out.1, HS1.out.2.1, World.ownsRow_nil _ _ _ _, rfl, HS1.out.2.2.1, HS1.out.2.2.2⟩
                case round =>
                  obtain ⟨k, v, os, hk, rfl, rfl, HH⟩ := hrel
                  clear HS1
                  obtain ⟨hbr, ht3, hown, hol, hsw, hfr⟩ := HH.out
                  clear HH
                  obtain ⟨⟨n0, n1, n3, n4, hgl⟩, hwr, HBW, hwc⟩ := HOLD.out wr (HQ7.out.symm ▸ hbr)
                  by_cases hlt : k < On
                  · have HCC := Lib.hid (HCT.out _ (6 + In + k) true wr hwr)
                    have HTT' := Lib.hid (fun W hW => HTT.out (6 + In + k) W hW)
                    rw [show (((6 + In + k : Nat)) : Int) = 6 + (In : Int) + (k : Int) by push_cast; rfl] at HCC HTT'
                    obtain ⟨r, hr5⟩ : ∃ r, On - k = r + 1 := ⟨On - k - 1, by omega⟩
                    rw [hr5, contO] at hfr
                    have HBS : Hid (∀ w9, Below wr.heap.size wr w9 → Hid (Below w1.heap.size w1 w9)) := fun w9 h9 => HBW.out.trans (h9.mono HBW.out.size)
                    have hkI9 : (In : Int) + (Gn : Int) ≤ 8000 := by omega
                    cases hc : cntW ws (6 + In + k) true with
                    | none =>
                      rw [hc] at HCC
                      simp only [Option.getD_none, Option.isSome_none] at HCC
                      rw [numb_none hc] at hfr
                      have HF := Lib.hid hfr.symm
                      generalize posL ws (6 + In + k) (n : Int) = ps at *
                      clear hfr hc hbr ht3 hown hol hr5 hwr hwc HOLD HTT HCT HSP HOK
                      go_wp2_with fail
                      refine HCC.out.mono ?_
                      rintro e3 w9 ⟨rfl, hb9⟩
                      have HB9 := HBS.out w9 hb9
                      clear n0 n1 n3 n4 hb9
                      obtain ⟨a0, a1, a2, af, asz⟩ := (HZW.out w9 HB9.out).1.2.2
                      go_wp2_with fail
                      go_region_with (go_at_call 21; refine (HTT'.out _ (by first | exact HB9.out | exact HB9.out.drew)).mono ?_; rintro e3 w3 ⟨rfl, hb3⟩; have hbw : Below w1.heap.size w1 w3 := HB9.out.trans (Below.mono (B := w9.heap.size) (by first | exact hb3 | exact (Below.refl _ _).drew.trans hb3) HB9.out.size); have HZ3 := Lib.hid (HZW.out w3 hbw); obtain ⟨⟨x0, x1, x2, xf, xsz⟩, ⟨y0, y1, y2, yf, ysz⟩, ⟨z0, z1, z2, zf, zsz⟩⟩ := HZ3.out.1; clear hbw hb3)
                      all_goals
                        go_wp2_with fail
                        exact bodyPost_ret (v := .tuple #[circV 0 (.slice none 0 0) (.slice none 0 0), faultV 101 true ps]) (finB_res (c := 101) (k := ps) HZ3.out.1 rfl rfl) rfl (finB_post HF.out rfl HZ3.out.2)
                    | some x =>
                      rw [hc] at HCC
                      simp only [Option.getD_some, Option.isSome_some] at HCC
                      rw [numb_some hc] at hfr
                      obtain ⟨_, hx0, hx1⟩ := cntW_in hc
                      have hcast : 2 * (((In + Gn : Nat)) : Int) + 1 = 2 * ((In : Int) + (Gn : Int)) + 1 := by push_cast; rfl
                      rw [hcast] at hfr
                      clear hcast
                      have HK9 : Hid (∀ w9, Below wr.heap.size wr w9 → w9.cell? ⟨gn, 0, none⟩ = some (.int .i64 ((In : Int) + (Gn : Int))) ∧ gn < w9.heap.size) := fun w9 h9 => ⟨(h9.cell (p := ⟨gn, 0, none⟩) hgl).trans n0, Nat.lt_of_lt_of_le hgl h9.size⟩
                      by_cases hx : 2 * ((In : Int) + (Gn : Int)) + 1 < x
                      · rw [if_pos hx] at hfr
                        simp only at hfr
                        have HF := Lib.hid hfr.symm
                        generalize posL ws (6 + In + k) (n : Int) = ps at *
                        clear hfr hc hbr ht3 hown hol hr5 hwr hwc HOLD HTT HCT HSP HOK
                        go_wp2_with fail
                        refine HCC.out.mono ?_
                        rintro e3 w9 ⟨rfl, hb9⟩
                        have HB9 := HBS.out w9 hb9
                        obtain ⟨k0, hgl9⟩ := HK9.out w9 hb9
                        clear n0 n1 n3 n4 hb9
                        obtain ⟨a0, a1, a2, af, asz⟩ := (HZW.out w9 HB9.out).1.2.2
                        go_wp2_with fail
                        go_region_with (go_at_call 21; refine (HTT'.out _ (by first | exact HB9.out | exact HB9.out.drew)).mono ?_; rintro e3 w3 ⟨rfl, hb3⟩; have hbw : Below w1.heap.size w1 w3 := HB9.out.trans (Below.mono (B := w9.heap.size) (by first | exact hb3 | exact (Below.refl _ _).drew.trans hb3) HB9.out.size); have HZ3 := Lib.hid (HZW.out w3 hbw); obtain ⟨⟨x0, x1, x2, xf, xsz⟩, ⟨y0, y1, y2, yf, ysz⟩, ⟨z0, z1, z2, zf, zsz⟩⟩ := HZ3.out.1; clear hbw hb3)
                        all_goals
                          go_wp2_with fail
                          exact bodyPost_ret (v := .tuple #[circV 0 (.slice none 0 0) (.slice none 0 0), faultV 101 true ps]) (finB_res (c := 101) (k := ps) HZ3.out.1 rfl rfl) rfl (finB_post HF.out rfl HZ3.out.2)
                      · rw [if_neg hx] at hfr
                        simp only at hfr
                        have hxd : decide (2 * ((In : Int) + (Gn : Int)) + 1 < x) = false := decide_eq_false hx
                        clear hx
                        obtain ⟨ao, co, rfl, hco1, hco⟩ := own_shape hown
                        unfold maxLen at hco
                        have HA : Hid (∀ w9, Below wr.heap.size wr w9 → (w9.cell? ⟨q7, 2, none⟩ = some (.slice ao k co) ∧ q7 < w9.heap.size) ∧ w9.ownsRow (q7 + 1) 3 1 (.slice ao k co) k (os.map (Value.int .i64)) ∧ q7 + 1 ≤ w9.heap.size ∧
                            ∀ v' w6, w6.ownsRow (q7 + 1) 3 1 v' (k + 1) (os.map (Value.int .i64) ++ [.int .i64 x]) → App (q7 + 1) w9 w6 (.slice ao k co) v' → (w6.cell? ⟨q7, 2, none⟩ = some (.slice ao k co) ∧ (∀ o, w6.frozen? ⟨q7, o, none⟩ = false) ∧ q7 < w6.heap.size) ∧
                              ∃ (k' : Nat) (v'' : Value) (os' : List Int), k' ≤ On ∧ Value.int .i64 (6 + (In : Int) + (k : Int) + 1) = .int .i64 (6 + (In : Int) + (k' : Int)) ∧ Value.int .i64 ((k : Int) + 1) = .int .i64 (k' : Int) ∧ Hid (Below q7 w7 (w6.setCell ⟨q7, 2, none⟩ v') ∧ T3 (w6.setCell ⟨q7, 2, none⟩ v') q7 (.int .i64 (In : Int)) (.slice none 0 0) v'' ∧ (w6.setCell ⟨q7, 2, none⟩ v').ownsRow (q7 + 1) 3 1 v'' k' (os'.map (Value.int .i64)) ∧ os'.length = k' ∧ q7 + 1 ≤ (w6.setCell ⟨q7, 2, none⟩ v').heap.size ∧ contO (n : Int) In (In + Gn) Gn (On - k') (ws.drop (6 + In + k')) os' = F)) := fun w9 h9 => by
                          have hq := HQ7.out
                          have hc9 := ht3.chg (S := []) (Chg.of_below h9) (by simp)
                          have hs9 := h9.size
                          refine ⟨⟨hc9.2.2.1, hc9.2.2.2.2⟩, own_keep hown h9, by omega, fun v' w6 hown6 hap => ?_⟩
                          have hc6 := hc9.low hap.below (Nat.lt_succ_self _)
                          refine ⟨⟨hc6.2.2.1, hc6.2.2.2.1, hc6.2.2.2.2⟩, k + 1, v', os ++ [x], by omega, congrArg (Value.int .i64) (by omega), congrArg (Value.int .i64) (by omega), ?_, ?_, ?_, by simp [hol], ?_, ?_⟩
                          · exact ((hbr.trans (h9.mono (by omega))).trans (hap.below.mono (by omega))).setCell (Nat.le_refl _) _
                          · exact ⟨(set_off (.inr (by decide))).trans hc6.1, (set_off (.inr (by decide))).trans hc6.2.1, set_at hc6.2.2.1, fun o => (World.frozen?_setCell _ _ _ _).trans (hc6.2.2.2.1 o), by simpa using hc6.2.2.2.2⟩
                          · exact ownsRow_setCell_below (by simpa using hown6) (a := ⟨q7, 2, none⟩) (Nat.lt_succ_self _) _
                          · have := hap.below.size; simp; omega
                          · rw [show On - (k + 1) = r by omega, show 6 + In + (k + 1) = 6 + In + k + 1 by omega]; exact hfr
                        clear hfr hc hbr ht3 hown hol hr5 hwr hwc HOLD HTT HCT HSP HOK HBS HTT' HBW
                        go_wp2_with fail
                        refine HCC.out.mono ?_
                        rintro e3 w9 ⟨rfl, hb9⟩
                        obtain ⟨⟨x2, xs2⟩, hown9, hs9, hrel9⟩ := HA.out w9 hb9
                        obtain ⟨k0, hgl9⟩ := HK9.out w9 hb9
                        have HO9 := Lib.hid hown9
                        have HR9 := Lib.hid hrel9
                        clear n0 n1 n3 n4 hb9 hgl hown9 hrel9
                        go_wp2_with (at_builtin; refine wpList_appV 25 3 (.int .i64 0) 8 Tryd.underlying25 infoInt rfl (by decide) rfl _ _ rfl w9 (q7 + 1) _ k (os.map (Value.int .i64)) (.int .i64 x) rfl HO9.out hs9 (by omega) _ rfl rfl rfl ?_; intro v' w6 hown6 hap; obtain ⟨⟨e1, ef, es⟩, hrel6⟩ := HR9.out v' w6 hown6 hap; obtain ⟨a', c', rfl, _, _⟩ := own_shape hown6; clear hown6 hap)
                        go_roundw
                        case rel => exact hrel6
                        case measure => simp [intOf]; omega
                  · have hkO : On = k := by omega
                    subst hkO
                    rename World => wz
                    rw [Nat.sub_self, contO] at hfr
                    obtain ⟨av0, cv0, rfl, hv01, hv02⟩ := own_shape hown
                    unfold maxLen at hv02
                    clear hk hlt hwr hwc
                    have HS2 : Hid (Below q7 w7 wz ∧ T3 wz q7 (.int .i64 (In : Int)) (.slice none 0 0) (.slice av0 On cv0) ∧ wz.ownsRow (q7 + 1) 3 1 (.slice av0 On cv0) On (os.map (Value.int .i64)) ∧ q7 + 1 ≤ wz.heap.size ∧ contG (n : Int) In Gn 0 (ws.drop (6 + In + On)) [] os = F ∧ ∀ k, (Value.slice av0 On cv0).ownBlock = some k → k < wz.heap.size) := ⟨hbr, ht3, hown, hsw, hfr, fun k hk => (hown.lt k hk).2⟩
                    clear hbr ht3 hfr hown hol hsw
                    go_wp2_with fail
                    clear n0 n1 n3 n4 hgl HBW
                    generalize hB3 : wz.heap.size = B3 at *
                    go_loopw [12, 19] (fun av iv wr => ∃ (k : Nat) (u : Value) (ps : List (Int × Int)), k ≤ Gn ∧ av = .int .i64 (6 + (In : Int) + (On : Int) + 3 * (k : Int)) ∧ iv = .int .i64 (k : Int) ∧ Hid (Below q7 w7 wr ∧ T3 wr q7 (.int .i64 (In : Int)) u (.slice av0 On cv0) ∧ wr.ownsRow B3 60 2 u k (ps.flatMap pcells) ∧ ps.length = k ∧ wr.ownsRow (q7 + 1) 3 1 (.slice av0 On cv0) On (os.map (Value.int .i64)) ∧ B3 ≤ wr.heap.size ∧ contG (n : Int) In (Gn - k) k (ws.drop (6 + In + On + 3 * k)) ps os = F)) (fun _ iv _ => Gn - (intOf iv).toNat)
                    case atStart => exact ⟨0, _, [], Nat.zero_le _, by simp, rfl, HS2.out.1, HS2.out.2.1, World.ownsRow_nil _ _ _ _, rfl, HS2.out.2.2.1, by rw [hB3]; exact Nat.le_refl _, HS2.out.2.2.2.2.1⟩
                    case round =>
                      obtain ⟨k, u, ps, hk, rfl, rfl, HH⟩ := hrel
                      have HVB : Hid (∀ k, (Value.slice av0 On cv0).ownBlock = some k → k < B3) := HS2.out.2.2.2.2.2
                      have HB37 : Hid (q7 + 1 ≤ B3) := HS2.out.2.2.2.1
                      clear HS2
                      obtain ⟨hbr, ht3, hown, hol, hov, hsw, hfr⟩ := HH.out
                      clear HH
                      obtain ⟨⟨n0, n1, n3, n4, hgl⟩, hwr, HBW, hwc⟩ := HOLD.out wr (HQ7.out.symm ▸ hbr)
                      have HBS : Hid (∀ w9, Below wr.heap.size wr w9 → Hid (Below w1.heap.size w1 w9)) := fun w9 h9 => HBW.out.trans (h9.mono HBW.out.size)
                      have hkI9 : (In : Int) + (Gn : Int) ≤ 8000 := by omega
                      have hJc : (((6 + In + On + 3 * k : Nat)) : Int) = 6 + (In : Int) + (On : Int) + 3 * (k : Int) := by push_cast; rfl
                      by_cases hlt : k < Gn
                      · have hk8 : (In : Int) + (k : Int) ≤ 8000 := by omega
                        have HC1 := Lib.hid (HCT.out _ (6 + In + On + 3 * k) true wr hwr)
                        have HC2 := Lib.hid (fun W (hW : Below wr.heap.size wr W) => HCT.out _ (6 + In + On + 3 * k + 1) false W (hwr.keep hW))
                        have HC3 := Lib.hid (fun W (hW : Below wr.heap.size wr W) => HCT.out _ (6 + In + On + 3 * k + 2) false W (hwr.keep hW))
                        have HT1 := Lib.hid (fun W hW => HTT.out (6 + In + On + 3 * k) W hW)
                        have HT2 := Lib.hid (fun W hW => HTT.out (6 + In + On + 3 * k + 1) W hW)
                        have HT3 := Lib.hid (fun W hW => HTT.out (6 + In + On + 3 * k + 2) W hW)
                        rw [show (((6 + In + On + 3 * k + 1 : Nat)) : Int) = 6 + (In : Int) + (On : Int) + 3 * (k : Int) + 1 by push_cast; rfl] at HC2 HT2
                        rw [show (((6 + In + On + 3 * k + 2 : Nat)) : Int) = 6 + (In : Int) + (On : Int) + 3 * (k : Int) + 2 by push_cast; rfl] at HC3 HT3
                        rw [hJc] at HC1 HT1
                        clear hJc
                        have hm5 : 6 + (In : Int) + (On : Int) + 3 * (k : Int) ≤ 100000 := by omega
                        have hm6 : 0 ≤ 6 + (In : Int) + (On : Int) + 3 * (k : Int) := by omega
                        obtain ⟨r, hr5⟩ : ∃ r, Gn - k = r + 1 := ⟨Gn - k - 1, by omega⟩
                        rw [hr5, contG] at hfr
                        cases hc : cntW ws (6 + In + On + 3 * k) true with
                        | none =>
                          rw [hc] at HC1
                          simp only [Option.getD_none, Option.isSome_none] at HC1
                          rw [gate_1 (just_none hc)] at hfr
                          simp only at hfr
                          have HF := Lib.hid hfr.symm
                          generalize posL ws (6 + In + On + 3 * k) (n : Int) = pz at *
                          clear hfr hbr ht3 hown hol hov hr5 hwr hwc HOLD HTT HCT HSP HOK hc HC2 HC3 HT2 HT3
                          go_wp2_with fail
                          refine HC1.out.mono ?_
                          rintro e3 w9 ⟨rfl, hb9⟩
                          have hc9 := hb9
                          clear n0 n1 n3 n4
                          have HB9 := HBS.out w9 hc9
                          clear hc9 hb9
                          obtain ⟨a0, a1, a2, af, asz⟩ := (HZW.out w9 HB9.out).1.2.2
                          go_wp2_with fail
                          go_region_with (go_at_call 21; refine (HT1.out _ (by first | exact HB9.out | exact HB9.out.drew)).mono ?_; rintro e3 w3 ⟨rfl, hb3⟩; have hbw : Below w1.heap.size w1 w3 := HB9.out.trans (Below.mono (B := w9.heap.size) (by first | exact hb3 | exact (Below.refl _ _).drew.trans hb3) HB9.out.size); have HZ3 := Lib.hid (HZW.out w3 hbw); obtain ⟨⟨x0, x1, x2, xf, xsz⟩, ⟨y0, y1, y2, yf, ysz⟩, ⟨z0, z1, z2, zf, zsz⟩⟩ := HZ3.out.1; clear hbw hb3)
                          all_goals
                            go_wp2_with fail
                            exact bodyPost_ret (v := .tuple #[circV 0 (.slice none 0 0) (.slice none 0 0), faultV 101 true pz]) (finB_res (c := 101) (k := pz) HZ3.out.1 rfl rfl) rfl (finB_post HF.out rfl HZ3.out.2)
                        | some x =>
                          rw [hc] at HC1
                          simp only [Option.getD_some, Option.isSome_some] at HC1
                          by_cases hx : x = 2 * ((In : Int) + (k : Int) + 1)
                          · have hju : justR (2 * ((In : Int) + (k : Int) + 1)) (n : Int) (ws.drop (6 + In + On + 3 * k)) = .got () (ws.drop (6 + In + On + 3 * k + 1)) := by rw [just_some hc, if_pos hx]
                            subst hx
                            have hne : (2 * ((In : Int) + (k : Int) + 1) != 2 * ((In : Int) + (k : Int) + 1)) = false := by simp
                            cases hc2 : cntW ws (6 + In + On + 3 * k + 1) false with
                            | none =>
                              rw [hc2] at HC2
                              simp only [Option.getD_none, Option.isSome_none] at HC2
                              rw [gate_2n hju hc2] at hfr
                              simp only at hfr
                              have HF := Lib.hid hfr.symm
                              generalize posL ws (6 + In + On + 3 * k + 1) (n : Int) = pz at *
                              clear hfr hbr ht3 hown hol hov hr5 hwr hwc HOLD HTT HCT HSP HOK hc hc2 hju HC3 HT1 HT3
                              generalize 6 + (In : Int) + (On : Int) + 3 * (k : Int) = J at *
                              obtain ⟨P1, hw1, hp1⟩ : ∃ P1 : Int, IntKind.i64.wrap (J + 1) = P1 ∧ J + 1 = P1 := ⟨_, IntWalk.i64_in _ (by omega), rfl⟩
                              rw [hp1] at HC2 HT2
                              clear hp1
                              go_wp2_with fail
                              refine HC1.out.mono ?_
                              rintro e3 w9 ⟨rfl, hb9⟩
                              have hc9 := hb9
                              clear n0 n1 n3 n4
                              go_wp2_with fail
                              refine (HC2.out _ hc9).mono ?_
                              rintro e4 w10 ⟨rfl, hb10⟩
                              have hc10 := hc9.trans (hb10.mono hc9.size)
                              have HB9 := HBS.out w10 hc10
                              clear hc9 hb10 hc10 hb9
                              obtain ⟨a0, a1, a2, af, asz⟩ := (HZW.out w10 HB9.out).1.2.2
                              go_wp2_with fail
                              go_region_with (go_at_call 21; refine (HT2.out _ (by first | exact HB9.out | exact HB9.out.drew)).mono ?_; rintro e3 w3 ⟨rfl, hb3⟩; have hbw : Below w1.heap.size w1 w3 := HB9.out.trans (Below.mono (B := w10.heap.size) (by first | exact hb3 | exact (Below.refl _ _).drew.trans hb3) HB9.out.size); have HZ3 := Lib.hid (HZW.out w3 hbw); obtain ⟨⟨x0, x1, x2, xf, xsz⟩, ⟨y0, y1, y2, yf, ysz⟩, ⟨z0, z1, z2, zf, zsz⟩⟩ := HZ3.out.1; clear hbw hb3)
                              all_goals
                                go_wp2_with fail
                                exact bodyPost_ret (v := .tuple #[circV 0 (.slice none 0 0) (.slice none 0 0), faultV 101 true pz]) (finB_res (c := 101) (k := pz) HZ3.out.1 rfl rfl) rfl (finB_post HF.out rfl HZ3.out.2)
                            | some a =>
                              rw [hc2] at HC2
                              simp only [Option.getD_some, Option.isSome_some] at HC2
                              obtain ⟨_, ha0, ha1⟩ := cntW_in hc2
                              by_cases ha : 2 * ((In : Int) + (k : Int) + 1) ≤ a
                              · have had : decide (2 * ((In : Int) + (k : Int) + 1) ≤ a) = true := decide_eq_true ha
                                rw [gate_2b hju hc2 ha] at hfr
                                simp only at hfr
                                have HF := Lib.hid hfr.symm
                                generalize posL ws (6 + In + On + 3 * k + 1) (n : Int) = pz at *
                                clear hfr hbr ht3 hown hol hov hr5 hwr hwc HOLD HTT HCT HSP HOK hc hc2 hju HC3 HT1 HT3 ha
                                generalize 6 + (In : Int) + (On : Int) + 3 * (k : Int) = J at *
                                obtain ⟨P1, hw1, hp1⟩ : ∃ P1 : Int, IntKind.i64.wrap (J + 1) = P1 ∧ J + 1 = P1 := ⟨_, IntWalk.i64_in _ (by omega), rfl⟩
                                rw [hp1] at HC2 HT2
                                clear hp1
                                go_wp2_with fail
                                refine HC1.out.mono ?_
                                rintro e3 w9 ⟨rfl, hb9⟩
                                have hc9 := hb9
                                clear n0 n1 n3 n4
                                go_wp2_with fail
                                refine (HC2.out _ hc9).mono ?_
                                rintro e4 w10 ⟨rfl, hb10⟩
                                have hc10 := hc9.trans (hb10.mono hc9.size)
                                have HB9 := HBS.out w10 hc10
                                clear hc9 hb10 hc10 hb9
                                obtain ⟨a0, a1, a2, af, asz⟩ := (HZW.out w10 HB9.out).1.2.2
                                go_wp2_with fail
                                go_region_with (go_at_call 21; refine (HT2.out _ (by first | exact HB9.out | exact HB9.out.drew)).mono ?_; rintro e3 w3 ⟨rfl, hb3⟩; have hbw : Below w1.heap.size w1 w3 := HB9.out.trans (Below.mono (B := w10.heap.size) (by first | exact hb3 | exact (Below.refl _ _).drew.trans hb3) HB9.out.size); have HZ3 := Lib.hid (HZW.out w3 hbw); obtain ⟨⟨x0, x1, x2, xf, xsz⟩, ⟨y0, y1, y2, yf, ysz⟩, ⟨z0, z1, z2, zf, zsz⟩⟩ := HZ3.out.1; clear hbw hb3)
                                all_goals
                                  go_wp2_with fail
                                  exact bodyPost_ret (v := .tuple #[circV 0 (.slice none 0 0) (.slice none 0 0), faultV 101 true pz]) (finB_res (c := 101) (k := pz) HZ3.out.1 rfl rfl) rfl (finB_post HF.out rfl HZ3.out.2)
                              · have had : decide (2 * ((In : Int) + (k : Int) + 1) ≤ a) = false := decide_eq_false ha
                                cases hc3 : cntW ws (6 + In + On + 3 * k + 2) false with
                                | none =>
                                  rw [hc3] at HC3
                                  simp only [Option.getD_none, Option.isSome_none] at HC3
                                  rw [gate_3n hju hc2 ha hc3] at hfr
                                  simp only at hfr
                                  have HF := Lib.hid hfr.symm
                                  generalize posL ws (6 + In + On + 3 * k + 2) (n : Int) = pz at *
                                  clear hfr hbr ht3 hown hol hov hr5 hwr hwc HOLD HTT HCT HSP HOK hc hc2 hc3 hju HT1 HT2 ha
                                  generalize 6 + (In : Int) + (On : Int) + 3 * (k : Int) = J at *
                                  obtain ⟨P1, hw1, hp1⟩ : ∃ P1 : Int, IntKind.i64.wrap (J + 1) = P1 ∧ J + 1 = P1 := ⟨_, IntWalk.i64_in _ (by omega), rfl⟩
                                  obtain ⟨P2, hw2, hp2⟩ : ∃ P2 : Int, IntKind.i64.wrap (J + 2) = P2 ∧ J + 2 = P2 := ⟨_, IntWalk.i64_in _ (by omega), rfl⟩
                                  rw [hp1] at HC2
                                  rw [hp2] at HC3 HT3
                                  clear hp1 hp2
                                  go_wp2_with fail
                                  refine HC1.out.mono ?_
                                  rintro e3 w9 ⟨rfl, hb9⟩
                                  have hc9 := hb9
                                  clear n0 n1 n3 n4
                                  go_wp2_with fail
                                  refine (HC2.out _ hc9).mono ?_
                                  rintro e4 w10 ⟨rfl, hb10⟩
                                  have hc10 := hc9.trans (hb10.mono hc9.size)
                                  go_wp2_with fail
                                  refine (HC3.out _ hc10).mono ?_
                                  rintro e5 w11 ⟨rfl, hb11⟩
                                  have hc11 := hc10.trans (hb11.mono hc10.size)
                                  have HB9 := HBS.out w11 hc11
                                  clear hc9 hb10 hc10 hb11 hc11 hb9
                                  obtain ⟨a0, a1, a2, af, asz⟩ := (HZW.out w11 HB9.out).1.2.2
                                  go_wp2_with fail
                                  go_region_with (go_at_call 21; refine (HT3.out _ (by first | exact HB9.out | exact HB9.out.drew)).mono ?_; rintro e3 w3 ⟨rfl, hb3⟩; have hbw : Below w1.heap.size w1 w3 := HB9.out.trans (Below.mono (B := w11.heap.size) (by first | exact hb3 | exact (Below.refl _ _).drew.trans hb3) HB9.out.size); have HZ3 := Lib.hid (HZW.out w3 hbw); obtain ⟨⟨x0, x1, x2, xf, xsz⟩, ⟨y0, y1, y2, yf, ysz⟩, ⟨z0, z1, z2, zf, zsz⟩⟩ := HZ3.out.1; clear hbw hb3)
                                  all_goals
                                    go_wp2_with fail
                                    exact bodyPost_ret (v := .tuple #[circV 0 (.slice none 0 0) (.slice none 0 0), faultV 101 true pz]) (finB_res (c := 101) (k := pz) HZ3.out.1 rfl rfl) rfl (finB_post HF.out rfl HZ3.out.2)
                                | some b =>
                                  rw [hc3] at HC3
                                  simp only [Option.getD_some, Option.isSome_some] at HC3
                                  by_cases hb : a < b
                                  · have hbd : decide (a < b) = true := decide_eq_true hb
                                    rw [gate_3b hju hc2 ha hc3 hb] at hfr
                                    simp only at hfr
                                    have HF := Lib.hid hfr.symm
                                    generalize posL ws (6 + In + On + 3 * k + 2) (n : Int) = pz at *
                                    clear hfr hbr ht3 hown hol hov hr5 hwr hwc HOLD HTT HCT HSP HOK hc hc2 hc3 hju HT1 HT2 ha hb
                                    generalize 6 + (In : Int) + (On : Int) + 3 * (k : Int) = J at *
                                    obtain ⟨P1, hw1, hp1⟩ : ∃ P1 : Int, IntKind.i64.wrap (J + 1) = P1 ∧ J + 1 = P1 := ⟨_, IntWalk.i64_in _ (by omega), rfl⟩
                                    obtain ⟨P2, hw2, hp2⟩ : ∃ P2 : Int, IntKind.i64.wrap (J + 2) = P2 ∧ J + 2 = P2 := ⟨_, IntWalk.i64_in _ (by omega), rfl⟩
                                    rw [hp1] at HC2
                                    rw [hp2] at HC3 HT3
                                    clear hp1 hp2
                                    go_wp2_with fail
                                    refine HC1.out.mono ?_
                                    rintro e3 w9 ⟨rfl, hb9⟩
                                    have hc9 := hb9
                                    clear n0 n1 n3 n4
                                    go_wp2_with fail
                                    refine (HC2.out _ hc9).mono ?_
                                    rintro e4 w10 ⟨rfl, hb10⟩
                                    have hc10 := hc9.trans (hb10.mono hc9.size)
                                    go_wp2_with fail
                                    refine (HC3.out _ hc10).mono ?_
                                    rintro e5 w11 ⟨rfl, hb11⟩
                                    have hc11 := hc10.trans (hb11.mono hc10.size)
                                    have HB9 := HBS.out w11 hc11
                                    clear hc9 hb10 hc10 hb11 hc11 hb9
                                    obtain ⟨a0, a1, a2, af, asz⟩ := (HZW.out w11 HB9.out).1.2.2
                                    go_wp2_with fail
                                    go_region_with (go_at_call 21; refine (HT3.out _ (by first | exact HB9.out | exact HB9.out.drew)).mono ?_; rintro e3 w3 ⟨rfl, hb3⟩; have hbw : Below w1.heap.size w1 w3 := HB9.out.trans (Below.mono (B := w11.heap.size) (by first | exact hb3 | exact (Below.refl _ _).drew.trans hb3) HB9.out.size); have HZ3 := Lib.hid (HZW.out w3 hbw); obtain ⟨⟨x0, x1, x2, xf, xsz⟩, ⟨y0, y1, y2, yf, ysz⟩, ⟨z0, z1, z2, zf, zsz⟩⟩ := HZ3.out.1; clear hbw hb3)
                                    all_goals
                                      go_wp2_with fail
                                      exact bodyPost_ret (v := .tuple #[circV 0 (.slice none 0 0) (.slice none 0 0), faultV 101 true pz]) (finB_res (c := 101) (k := pz) HZ3.out.1 rfl rfl) rfl (finB_post HF.out rfl HZ3.out.2)
                                  · have hbd : decide (a < b) = false := decide_eq_false hb
                                    rw [gate_ok hju hc2 ha hc3 hb] at hfr
                                    simp only at hfr
                                    obtain ⟨ao, co, rfl, hco1, hco⟩ := row_shape hown
                                    unfold maxLen at hco
                                    have HA : Hid (∀ w9, Below wr.heap.size wr w9 → (w9.cell? ⟨q7, 1, none⟩ = some (.slice ao k co) ∧ q7 < w9.heap.size) ∧ w9.ownsRow B3 60 2 (.slice ao k co) k (ps.flatMap pcells) ∧ B3 ≤ w9.heap.size ∧
                                        ∀ v' w6, w6.ownsRow B3 60 2 v' (k + 1) (ps.flatMap pcells ++ pcells (a, b)) → App B3 w9 w6 (.slice ao k co) v' → (w6.cell? ⟨q7, 1, none⟩ = some (.slice ao k co) ∧ (∀ o, w6.frozen? ⟨q7, o, none⟩ = false) ∧ q7 < w6.heap.size) ∧
                                          ∃ (k' : Nat) (u'' : Value) (ps' : List (Int × Int)), k' ≤ Gn ∧ Value.int .i64 (6 + (In : Int) + (On : Int) + 3 * (k : Int) + 3) = .int .i64 (6 + (In : Int) + (On : Int) + 3 * (k' : Int)) ∧ Value.int .i64 ((k : Int) + 1) = .int .i64 (k' : Int) ∧ Hid (Below q7 w7 (w6.setCell ⟨q7, 1, none⟩ v') ∧ T3 (w6.setCell ⟨q7, 1, none⟩ v') q7 (.int .i64 (In : Int)) u'' (.slice av0 On cv0) ∧ (w6.setCell ⟨q7, 1, none⟩ v').ownsRow B3 60 2 u'' k' (ps'.flatMap pcells) ∧ ps'.length = k' ∧ (w6.setCell ⟨q7, 1, none⟩ v').ownsRow (q7 + 1) 3 1 (.slice av0 On cv0) On (os.map (Value.int .i64)) ∧ B3 ≤ (w6.setCell ⟨q7, 1, none⟩ v').heap.size ∧ contG (n : Int) In (Gn - k') k' (ws.drop (6 + In + On + 3 * k')) ps' os = F)) := fun w9 h9 => by
                                      have hq := HQ7.out
                                      have h37 := HB37.out
                                      have hc9 := ht3.chg (S := []) (Chg.of_below h9) (by simp)
                                      have hs9 := h9.size
                                      refine ⟨⟨hc9.2.1, hc9.2.2.2.2⟩, own_keep hown h9, by omega, fun v' w6 hown6 hap => ?_⟩
                                      have hc6 := hc9.low hap.below (by omega)
                                      refine ⟨⟨hc6.2.1, hc6.2.2.2.1, hc6.2.2.2.2⟩, k + 1, v', ps ++ [(a, b)], by omega, congrArg (Value.int .i64) (by omega), congrArg (Value.int .i64) (by omega), ?_, ?_, ?_, by simp [hol], ?_, ?_, ?_⟩
                                      · exact ((hbr.trans (h9.mono (by omega))).trans (hap.below.mono (by omega))).setCell (Nat.le_refl _) _
                                      · exact ⟨(set_off (.inr (by decide))).trans hc6.1, set_at hc6.2.1, (set_off (.inr (by decide))).trans hc6.2.2.1, fun o => (World.frozen?_setCell _ _ _ _).trans (hc6.2.2.2.1 o), by simpa using hc6.2.2.2.2⟩
                                      · exact ownsRow_setCell_below (by simpa using hown6) (a := ⟨q7, 1, none⟩) (by show q7 < B3; omega) _
                                      · exact ownsRow_setCell_below (own_low (own_keep hov h9) hap.below HVB.out) (a := ⟨q7, 1, none⟩) (Nat.lt_succ_self _) _
                                      · have := hap.below.size; simp; omega
                                      · rw [show Gn - (k + 1) = r by omega, show 6 + In + On + 3 * (k + 1) = 6 + In + On + 3 * k + 3 by omega]; exact hfr
                                    clear hfr hbr ht3 hown hol hov hr5 hwr hwc HOLD HTT HCT HSP HOK hc hc2 hc3 hju HT1 HT2 HT3 HBS HBW
                                    clear ha hb
                                    go_wp2_with fail
                                    refine HC1.out.mono ?_
                                    rintro e3 w9 ⟨rfl, hb9⟩
                                    have hc9 := hb9
                                    clear n0 n1 n3 n4
                                    go_wp2_with fail
                                    refine (HC2.out _ hc9).mono ?_
                                    rintro e4 w10 ⟨rfl, hb10⟩
                                    have hc10 := hc9.trans (hb10.mono hc9.size)
                                    go_wp2_with fail
                                    refine (HC3.out _ hc10).mono ?_
                                    rintro e5 w11 ⟨rfl, hb11⟩
                                    have hc11 := hc10.trans (hb11.mono hc10.size)
                                    obtain ⟨⟨x2, xs2⟩, hown9, hs9, hrel9⟩ := HA.out w11 hc11
                                    have HO9 := Lib.hid hown9
                                    have HR9 := Lib.hid hrel9
                                    clear hb9 hb10 hb11 hc9 hc10 hc11 hgl hown9 hrel9
                                    go_wp2_with (at_builtin; refine wpList_appS 24 60 _ 2 16 Tryd.underlying24 infoA rfl (by decide) (by decide) rfl _ _ rfl w11 B3 _ k (ps.flatMap pcells) (pcells (a, b)) (pcells_one _) rfl HO9.out hs9 (by omega) _ rfl rfl rfl ?_; intro v' w6 hown6 hap; obtain ⟨⟨e1, ef, es⟩, hrel6⟩ := HR9.out v' w6 hown6 hap; obtain ⟨a', c', rfl, _, _⟩ := row_shape hown6; clear hown6 hap)
                                    go_roundw
                                    case rel => exact hrel6
                                    case measure => simp [intOf]; omega
                          · have hne : (x != 2 * ((In : Int) + (k : Int) + 1)) = true := by simpa using hx
                            have hju : justR (2 * ((In : Int) + (k : Int) + 1)) (n : Int) (ws.drop (6 + In + On + 3 * k)) = .bad (posL ws (6 + In + On + 3 * k) n) := by rw [just_some hc, if_neg hx]
                            rw [gate_1 hju] at hfr
                            simp only at hfr
                            have HF := Lib.hid hfr.symm
                            generalize posL ws (6 + In + On + 3 * k) (n : Int) = pz at *
                            clear hfr hbr ht3 hown hol hov hr5 hwr hwc HOLD HTT HCT HSP HOK hc hju HC2 HC3 HT2 HT3 hx
                            go_wp2_with fail
                            refine HC1.out.mono ?_
                            rintro e3 w9 ⟨rfl, hb9⟩
                            have hc9 := hb9
                            clear n0 n1 n3 n4
                            have HB9 := HBS.out w9 hc9
                            clear hc9 hb9
                            obtain ⟨a0, a1, a2, af, asz⟩ := (HZW.out w9 HB9.out).1.2.2
                            go_wp2_with fail
                            go_region_with (go_at_call 21; refine (HT1.out _ (by first | exact HB9.out | exact HB9.out.drew)).mono ?_; rintro e3 w3 ⟨rfl, hb3⟩; have hbw : Below w1.heap.size w1 w3 := HB9.out.trans (Below.mono (B := w9.heap.size) (by first | exact hb3 | exact (Below.refl _ _).drew.trans hb3) HB9.out.size); have HZ3 := Lib.hid (HZW.out w3 hbw); obtain ⟨⟨x0, x1, x2, xf, xsz⟩, ⟨y0, y1, y2, yf, ysz⟩, ⟨z0, z1, z2, zf, zsz⟩⟩ := HZ3.out.1; clear hbw hb3)
                            all_goals
                              go_wp2_with fail
                              exact bodyPost_ret (v := .tuple #[circV 0 (.slice none 0 0) (.slice none 0 0), faultV 101 true pz]) (finB_res (c := 101) (k := pz) HZ3.out.1 rfl rfl) rfl (finB_post HF.out rfl HZ3.out.2)
                      · have hkG : Gn = k := by omega
                        subst hkG
                        rw [Nat.sub_self, contG] at hfr
                        unfold contT at hfr
                        rw [← hJc]
                        have hJ8 : 6 + In + On + 3 * Gn ≤ 100000 := by omega
                        have HTJ := Lib.hid (fun W hW => HTT.out (6 + In + On + 3 * Gn) W hW)
                        have HJT := Lib.hid (tail_word (ws := ws) (j := 6 + In + On + 3 * Gn) (e := n))
                        have HJN := Lib.hid (tail_nil (ws := ws) (j := 6 + In + On + 3 * Gn))
                        have HOB : Hid (q7 + 1 ≤ B3) := HB37.out
                        generalize hJJ : 6 + In + On + 3 * Gn = J at *
                        clear hJJ hJc hk hlt HTT HCT HSP HOLD
                        rw [HM.out] at HJT HJN
                        have hB1 := HBW.out
                        cases htl : tailR (ws.drop J) with
                        | some pz =>
                          rw [htl] at hfr
                          simp only at hfr
                          have HF := Lib.hid hfr.symm
                          have hJm : J < m := by
                            rcases Nat.lt_or_ge J m with h | h
                            · exact h
                            · rw [HJN.out h] at htl; cases htl
                          have hpz := HJT.out hJm
                          rw [htl] at hpz
                          have hJ3 : ¬ (fst ws J = true ∧ (txt ws J).head? = some 99) := fun h => by rw [if_pos h] at hpz; cases hpz
                          rw [if_neg hJ3] at hpz
                          have hpz' : posL ws J (n : Int) = pz := (Option.some.inj hpz).symm
                          rw [hpz'] at HTJ
                          clear hpz hpz' htl hfr HJT HJN
                          have g2 : wr.cell? ⟨g, J * 3 + 2, none⟩ = some (.bool (fst ws J)) := hwc.fst J (by rw [HM.out]; exact hJm)
                          have g1 : wr.cell? ⟨g, J * 3, none⟩ = some (.string (strOfNums (txt ws J))) := hwc.text J (by rw [HM.out]; exact hJm)
                          have hgr := hwc.sq
                          obtain ⟨z1, z2, z3⟩ := HOK.out.at (show J < ws.length by rw [HM.out]; exact hJm)
                          have hyy := fun h => str_at z2 0 h
                          have hss : (strOfNums (txt ws J)).size = (txt ws J).length := strOfNums_size _
                          have hpos : 0 < (txt ws J).length := List.length_pos_iff.2 z1
                          have hha := head_at z1 99
                          have hs0 : 0 < (strOfNums (txt ws J)).size := by omega
                          have hJi : (J : Int) < m := by omega
                          have hJ0 : (0 : Int) ≤ (J : Int) := by omega
                          have HBX := Lib.hid (HBS.out wr (Below.refl _ _))
                          clear hbr ht3 hown hol hov hwr hwc HOK z1 z2 z3 hpos hss hB1 HBS
                          generalize hfs : fst ws J = fl at *
                          generalize hyv : (txt ws J).getD 0 0 = y at *
                          generalize strOfNums (txt ws J) = sx at *
                          cases fl with
                          | false =>
                            clear hyy hha hJ3 hyv hfs
                            obtain ⟨a0, a1, a2, af, asz⟩ := (HZW.out wr HBX.out.out).1.2.2
                            go_wp2_with fail
                            go_region_with (go_at_call 21; refine (HTJ.out _ (by first | exact HBX.out.out | exact HBX.out.out.drew)).mono ?_; rintro e3 w3 ⟨rfl, hb3⟩; have hbw : Below w1.heap.size w1 w3 := HBX.out.out.trans (Below.mono (B := wr.heap.size) (by first | exact hb3 | exact (Below.refl _ _).drew.trans hb3) HBX.out.out.size); have HZ3 := Lib.hid (HZW.out w3 hbw); obtain ⟨⟨x0, x1, x2, xf, xsz⟩, ⟨y0, y1, y2, yf, ysz⟩, ⟨z0, z1, z2, zf, zsz⟩⟩ := HZ3.out.1; clear hbw hb3)
                            all_goals
                              go_wp2_with fail
                              exact bodyPost_ret (v := .tuple #[circV 0 (.slice none 0 0) (.slice none 0 0), faultV 101 true pz]) (finB_res (c := 101) (k := pz) HZ3.out.1 rfl rfl) rfl (finB_post HF.out rfl HZ3.out.2)
                          | true =>
                            have hy9 : (y != 99) = true := by
                              have h9 : ¬ y = 99 := fun h => hJ3 ⟨rfl, by rw [h] at hha; simpa using hha⟩
                              simpa using h9
                            clear hha hJ3 hyv hfs
                            obtain ⟨a0, a1, a2, af, asz⟩ := (HZW.out wr HBX.out.out).1.2.2
                            go_wp2_with fail
                            go_region_with (go_at_call 21; refine (HTJ.out _ (by first | exact HBX.out.out | exact HBX.out.out.drew)).mono ?_; rintro e3 w3 ⟨rfl, hb3⟩; have hbw : Below w1.heap.size w1 w3 := HBX.out.out.trans (Below.mono (B := wr.heap.size) (by first | exact hb3 | exact (Below.refl _ _).drew.trans hb3) HBX.out.out.size); have HZ3 := Lib.hid (HZW.out w3 hbw); obtain ⟨⟨x0, x1, x2, xf, xsz⟩, ⟨y0, y1, y2, yf, ysz⟩, ⟨z0, z1, z2, zf, zsz⟩⟩ := HZ3.out.1; clear hbw hb3)
                            all_goals
                              go_wp2_with fail
                              exact bodyPost_ret (v := .tuple #[circV 0 (.slice none 0 0) (.slice none 0 0), faultV 101 true pz]) (finB_res (c := 101) (k := pz) HZ3.out.1 rfl rfl) rfl (finB_post HF.out rfl HZ3.out.2)
                        | none =>
                          rw [htl] at hfr
                          simp only at hfr
                          have HF := Lib.hid hfr.symm
                          have hHA : ∀ w3, Below wr.heap.size wr w3 → ZB w3 w.heap.size ∧ T3 w3 q7 (.int .i64 (In : Int)) u (.slice av0 On cv0) ∧ RefP w F (.returned (.tuple #[circV In u (.slice av0 On cv0), faultV 0 false 0])) (set3 (set3 w3 w.heap.size (.int .i64 (In : Int)) u (.slice av0 On cv0)) (w.heap.size + 1) (.int .i64 0) (.bool false) (.int .i64 0)) := fun w3 h3 => by
                            have hbw := HZW.out w3 (hB1.trans (h3.mono hB1.size))
                            have h37 := HOB.out
                            have hq7 := HQ7.out
                            have hw8 : w.heap.size + 3 ≤ q7 := by
                              have h1 := HB1.out.size
                              rw [HS3.out] at h1
                              have h2 := HB7.out.size
                              omega
                            have ho3 := own_keep hown h3
                            have hv3 := own_keep hov h3
                            refine ⟨hbw.1, ht3.chg (S := []) (Chg.of_below h3) (by simp), ?_⟩
                            rw [HF.out]
                            refine ⟨⟨u, .slice av0 On cv0, rfl, own_prow (set3_own (set3_own ho3 (by omega)) (by omega)), own_row (set3_own (set3_own hv3 (by omega)) (by omega))⟩, ?_⟩
                            exact (((((hbw.2.setCell (Nat.le_refl _) _).setCell (Nat.le_refl _) _).setCell (Nat.le_refl _) _).setCell (Nat.le_succ _) _).setCell (Nat.le_succ _) _).setCell (Nat.le_succ _) _
                          have HHA := Lib.hid hHA
                          have hor : m ≤ J ∨ (J < m ∧ fst ws J = true ∧ (txt ws J).head? = some 99) := by
                            rcases Nat.lt_or_ge J m with h | h
                            · right
                              have := HJT.out h
                              rw [htl] at this
                              by_cases h3 : fst ws J = true ∧ (txt ws J).head? = some 99
                              · exact ⟨h, h3⟩
                              · rw [if_neg h3] at this; cases this
                            · exact .inl h
                          obtain ⟨au3, ku3, rfl, hku1, hku2⟩ := row_shape hown
                          obtain ⟨c0, c1, c2, cf, cs⟩ := ht3
                          have HNO := Lib.hid (fun W => none_any W)
                          unfold faultV at HNO
                          have hwcx := Lib.hid hwc
                          clear hHA htl hfr HJT HJN hbr hown hol hov hwr HTJ hwc HBS HB7
                          rcases hor with hJm | ⟨hJm, hf9, hh9⟩
                          · have hJd : decide ((J : Int) < (m : Int)) = false := by simp; omega
                            have hJd2 : decide (J < m) = false := by simp; omega
                            clear hJm
                            go_wp2_with fail
                            go_region_with (go_at_call 24; refine (HNO.out _).mono ?_; rintro e9 w3 ⟨rfl, hb3⟩; have hbw : Below wr.heap.size wr w3 := (by first | exact hb3 | exact (Below.refl _ _).drew.trans hb3); obtain ⟨hz3, ht9, hpost⟩ := HHA.out w3 hbw; have HZ3 := Lib.hid hz3; have HPO := Lib.hid hpost; obtain ⟨⟨x0, x1, x2, xf, xsz⟩, ⟨y0, y1, y2, yf, ysz⟩, _⟩ := hz3; obtain ⟨t0, t1, t2, tf, tsz⟩ := ht9; clear hbw hb3 hpost)
                            all_goals
                              go_wp2_with fail
                              exact bodyPost_ret (v := .tuple #[circV In (.slice au3 Gn ku3) (.slice av0 On cv0), faultV 0 false 0]) (res6 ((HZ3.out.1.set3 (.int .i64 (In : Int)) (.slice au3 Gn ku3) (.slice av0 On cv0)).off (by omega)) ((HZ3.out.2.1.off (by omega)).set3 (.int .i64 0) (.bool false) (.int .i64 0)) rfl rfl) rfl HPO.out
                          · have g2 : wr.cell? ⟨g, J * 3 + 2, none⟩ = some (.bool true) := by rw [← hf9]; exact hwcx.out.fst J (by rw [HM.out]; exact hJm)
                            have g1 : wr.cell? ⟨g, J * 3, none⟩ = some (.string (strOfNums (txt ws J))) := hwcx.out.text J (by rw [HM.out]; exact hJm)
                            have hgr := hwcx.out.sq
                            obtain ⟨z1, z2, z3⟩ := HOK.out.at (show J < ws.length by rw [HM.out]; exact hJm)
                            have hyy := fun h => str_at z2 0 h
                            have hs0 : 0 < (strOfNums (txt ws J)).size := by rw [strOfNums_size]; exact List.length_pos_iff.2 z1
                            have hy9 : (txt ws J).getD 0 0 = 99 := by have := head_at z1 99; rw [hh9] at this; simpa using this.symm
                            rw [hy9] at hyy
                            have hJi : (J : Int) < m := by omega
                            have hJ0 : (0 : Int) ≤ (J : Int) := by omega
                            clear hJm hf9 hh9 z1 z2 z3 hy9
                            generalize strOfNums (txt ws J) = sx at *
                            go_wp2_with fail
                            go_region_with (go_at_call 24; refine (HNO.out _).mono ?_; rintro e9 w3 ⟨rfl, hb3⟩; have hbw : Below wr.heap.size wr w3 := (by first | exact hb3 | exact (Below.refl _ _).drew.trans hb3); obtain ⟨hz3, ht9, hpost⟩ := HHA.out w3 hbw; have HZ3 := Lib.hid hz3; have HPO := Lib.hid hpost; obtain ⟨⟨x0, x1, x2, xf, xsz⟩, ⟨y0, y1, y2, yf, ysz⟩, _⟩ := hz3; obtain ⟨t0, t1, t2, tf, tsz⟩ := ht9; clear hbw hb3 hpost)
                            all_goals
                              go_wp2_with fail
                              exact bodyPost_ret (v := .tuple #[circV In (.slice au3 Gn ku3) (.slice av0 On cv0), faultV 0 false 0]) (res6 ((HZ3.out.1.set3 (.int .i64 (In : Int)) (.slice au3 Gn ku3) (.slice av0 On cv0)).off (by omega)) ((HZ3.out.2.1.off (by omega)).set3 (.int .i64 0) (.bool false) (.int .i64 0)) rfl rfl) rfl HPO.out
          · rw [if_pos hL0] at hFF
            have hnl0 : (L != 0) = true := by simpa using hL0
            have HF := Lib.hid hFF
            have HT3 := Lib.hid (fun W hW => HTT.out 3 W hW)
            clear hFF hL0
            generalize posL ws (2 + 1) (n : Int) = ps at *
            go_wp2_with fail
            refine HLM.out.mono ?_
            rintro e2 w2 ⟨rfl, hb2⟩
            have HB2 := Lib.hid (HB5.out.trans (hb2.mono hsr))
            have hgl := Nat.lt_of_lt_of_le hgn2 hb2.size
            have n0 := (hb2.cell (p := ⟨gn, 0, none⟩) hgn2).trans n0
            have n1 := (hb2.cell (p := ⟨gn, 1, none⟩) hgn2).trans n1
            have n2 := (hb2.cell (p := ⟨gn, 2, none⟩) hgn2).trans n2
            have n4 := (hb2.cell (p := ⟨gn, 4, none⟩) hgn2).trans n4
            clear hb2
            go_wp2_with fail
            go_quiet (fail)
            have n2' : (w2.drewN nq).cell? ⟨gn, 2, none⟩ = some (.int .i64 L) := (World.cell?_drewN ..).trans n2
            have hgl' : gn < (w2.drewN nq).heap.size := hgl
            have HB7 := Lib.hid (below_drewN HB2.out nq)
            generalize w2.drewN nq = w7 at *
            obtain ⟨a0, a1, a2, af, asz⟩ := (HZW.out w7 HB7.out).1.2.2
            go_wp2_with fail
            go_region_with (go_at_call 21; refine (HT3.out _ (by first | exact HB7.out | exact HB7.out.drew)).mono ?_; rintro e3 w3 ⟨rfl, hb3⟩; have hbw : Below w1.heap.size w1 w3 := HB7.out.trans (Below.mono (B := w7.heap.size) (by first | exact hb3 | exact (Below.refl _ _).drew.trans hb3) HB7.out.size); have HZ3 := Lib.hid (HZW.out w3 hbw); obtain ⟨⟨x0, x1, x2, xf, xsz⟩, ⟨y0, y1, y2, yf, ysz⟩, ⟨z0, z1, z2, zf, zsz⟩⟩ := HZ3.out.1; clear hbw hb3)
            all_goals
              go_wp2_with fail
              exact bodyPost_ret (v := .tuple #[circV 0 (.slice none 0 0) (.slice none 0 0), faultV 101 true ps]) (finB_res (c := 101) (k := ps) HZ3.out.1 rfl rfl) rfl (finB_post HF.out rfl HZ3.out.2)
        · rw [if_pos hMI] at hFF
          have hne : (M != I + G) = true := by simpa using hMI
          have HF := Lib.hid hFF
          have HT3 := Lib.hid (fun W hW => HTT.out 1 W hW)
          clear hFF hMI
          generalize posL ws (0 + 1) (n : Int) = ps at *
          go_wp2_with fail
          refine HLM.out.mono ?_
          rintro e2 w2 ⟨rfl, hb2⟩
          have HB2 := Lib.hid (HB5.out.trans (hb2.mono hsr))
          have hgl := Nat.lt_of_lt_of_le hgn2 hb2.size
          have n0 := (hb2.cell (p := ⟨gn, 0, none⟩) hgn2).trans n0
          have n1 := (hb2.cell (p := ⟨gn, 1, none⟩) hgn2).trans n1
          have n4 := (hb2.cell (p := ⟨gn, 4, none⟩) hgn2).trans n4
          clear hb2
          go_wp2_with fail
          go_quiet (fail)
          have HB7 := Lib.hid (below_drewN HB2.out nq)
          generalize w2.drewN nq = w7 at *
          obtain ⟨a0, a1, a2, af, asz⟩ := (HZW.out w7 HB7.out).1.2.2
          go_wp2_with fail
          go_region_with (go_at_call 21; refine (HT3.out _ (by first | exact HB7.out | exact HB7.out.drew)).mono ?_; rintro e3 w3 ⟨rfl, hb3⟩; have hbw : Below w1.heap.size w1 w3 := HB7.out.trans (Below.mono (B := w7.heap.size) (by first | exact hb3 | exact (Below.refl _ _).drew.trans hb3) HB7.out.size); have HZ3 := Lib.hid (HZW.out w3 hbw); obtain ⟨⟨x0, x1, x2, xf, xsz⟩, ⟨y0, y1, y2, yf, ysz⟩, ⟨z0, z1, z2, zf, zsz⟩⟩ := HZ3.out.1; clear hbw hb3)
          all_goals
            go_wp2_with fail
            exact bodyPost_ret (v := .tuple #[circV 0 (.slice none 0 0) (.slice none 0 0), faultV 101 true ps]) (finB_res (c := 101) (k := ps) HZ3.out.1 rfl rfl) rfl (finB_post HF.out rfl HZ3.out.2)
end Go.Proofs.YtcefeidfmnggaaaDoor
