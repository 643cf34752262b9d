/- The document's ReadAag where the first word is amiss. Conditions: the slice reads as bytes, few of them. -/
import Derived.Test.YtcefeidfmnggaaaDoorRgm
import Derived.Deep.RegionHeld3
namespace Go.Proofs.YtcefeidfmnggaaaDoor
open Go.RowKit

set_option maxRecDepth 20000 in
set_option maxHeartbeats 4000000 in
theorem refA_first (v : Value) (xs : List Int) (w : World) (hv : RowG (Value.int .u8) 0 w v xs) (hb : Bts xs) (hn : xs.length ≤ 4000) (h : ¬ (0 < (wordsL false xs).length ∧ fst (wordsL false xs) 0 = true ∧ txt (wordsL false xs) 0 = [97, 97, 103])) :
    Calls Tryd.prog 8 #[v] w (RefP w (readR xs.length (wordsL false xs))) := by
  obtain ⟨hok, hwn⟩ := wordsF_ok hb hn
  obtain ⟨hz, hb3, hs3⟩ := three_zb w
  have HSP := Lib.hid (refSplit_row v xs false _ (hv.keep hb3) hb (by omega))
  have HF := Lib.hid (readR_head (headR_n0 (e := xs.length) h))
  have HTX := Lib.hid (fun u W (hr : WRow W u (wordsL false xs)) => refText_any u (wordsL false xs) 0 xs.length W hr)
  obtain ⟨a, cap, rfl, hcl, hcm, _⟩ := hv
  unfold maxLen at hcm
  have HOK := Lib.hid hok
  have HH := Lib.hid h
  have HZ := Lib.hid hz
  have HB3 := Lib.hid hb3
  have HS3 := Lib.hid hs3
  clear hb hok h hz hb3 hs3
  generalize readR (xs.length : Int) (wordsL false xs) = F at *
  generalize wordsL false xs = ws at *
  generalize posL ws 0 (xs.length : Int) = ps at *
  generalize xs.length = n at *
  have hnl : decide ((1048576 : Int) < n) = false := by simp; omega
  unfold three at *
  unfold faultV at HTX
  by_cases hl0 : ws.length = 0
  · clear HH
    go_enter Tryd.func8, Tryd.ntmps8
    go_wp2_with fail
    refine HSP.out.mono ?_
    rintro e1 w1 ⟨⟨u, rfl, hr⟩, hb1⟩
    have HR := Lib.hid hr
    have HB1 := Lib.hid (show Below (w.heap.size + 3) _ w1 from HS3.out ▸ hb1)
    obtain ⟨au, cu, rfl, hcu1, hcu2, hwo⟩ := hr
    unfold maxLen at hcu2
    obtain ⟨a0, a1, a2, af, asz⟩ := (HZ.out.low HB1.out).2.2
    have HZW : Hid (∀ W, Below w1.heap.size w1 W → ZB W w.heap.size ∧ Below w.heap.size w W) := fun W hW => ⟨HZ.out.low (HB1.out.trans (hW.mono (by have := HB1.out.size; rw [HS3.out] at this; exact this))), (HB3.out.trans (HB1.out.mono (by omega))).trans (hW.mono (by have := HB1.out.size; rw [HS3.out] at this; omega))⟩
    clear hwo
    generalize ws.length = m at *
    subst hl0
    go_wp2_with fail
    go_region_with (go_at_call 21; refine (HTX.out _ _ (by first | exact HR.out | exact HR.out.keep (Below.refl _ _).drew)).mono ?_; rintro e3 w3 ⟨rfl, hb3⟩; have hbw : Below w1.heap.size w1 w3 := (by first | exact hb3 | exact (Below.refl _ _).drew.trans hb3); have HZ3 := Lib.hid (HZW.out w3 hbw); obtain ⟨⟨x0, x1, x2, xf, xsz⟩, ⟨y0, y1, y2, yf, ysz⟩, ⟨z0, z1, z2, zf, zsz⟩⟩ := HZ3.out.1; clear hbw hb3)
    all_goals
      go_wp2_with fail
      exact bodyPost_ret (v := .tuple #[circV 0 (.slice none 0 0) (.slice none 0 0), faultV 101 true ps]) (finB_res (c := 101) (k := ps) HZ3.out.1 rfl rfl) rfl (finB_post HF.out rfl HZ3.out.2)
  · by_cases ht : txt ws 0 = [97, 97, 103]
    · have hf : fst ws 0 = false := by
        cases hf : fst ws 0 with
        | false => rfl
        | true => exact absurd ⟨by omega, hf, ht⟩ HH.out
      clear HH
      go_enter Tryd.func8, Tryd.ntmps8
      go_wp2_with fail
      refine HSP.out.mono ?_
      rintro e1 w1 ⟨⟨u, rfl, hr⟩, hb1⟩
      have HR := Lib.hid hr
      have HB1 := Lib.hid (show Below (w.heap.size + 3) _ w1 from HS3.out ▸ hb1)
      obtain ⟨au, cu, rfl, hcu1, hcu2, hwo⟩ := hr
      unfold maxLen at hcu2
      obtain ⟨a0, a1, a2, af, asz⟩ := (HZ.out.low HB1.out).2.2
      have HZW : Hid (∀ W, Below w1.heap.size w1 W → ZB W w.heap.size ∧ Below w.heap.size w W) := fun W hW => ⟨HZ.out.low (HB1.out.trans (hW.mono (by have := HB1.out.size; rw [HS3.out] at this; exact this))), (HB3.out.trans (HB1.out.mono (by omega))).trans (hW.mono (by have := HB1.out.size; rw [HS3.out] at this; omega))⟩
      obtain ⟨g, rfl, hw⟩ := hwo.resolve_left hl0
      have g0 : w1.cell? ⟨g, 0, none⟩ = some (.string ⟨#[97, 97, 103]⟩) := by have := hw.text 0 (by omega); rw [Nat.zero_mul] at this; rw [this, show (ws.getD 0 wd0).1 = [97, 97, 103] from ht, aag_str]
      have g2 : w1.cell? ⟨g, 2, none⟩ = some (.bool false) := by have := hw.fst 0 (by omega); rw [Nat.zero_mul] at this; rw [this, show (ws.getD 0 wd0).2.2 = false from hf]
      have hg := hw.sq
      clear hw hwo ht hf
      generalize ws.length = m at *
      have hm0 : ((m : Int) == 0) = false := by simp; omega
      have hm1 : (0 : Int) < m := by omega
      go_wp2_with fail
      go_region_with (go_at_call 21; refine (HTX.out _ _ (by first | exact HR.out | exact HR.out.keep (Below.refl _ _).drew)).mono ?_; rintro e3 w3 ⟨rfl, hb3⟩; have hbw : Below w1.heap.size w1 w3 := (by first | exact hb3 | exact (Below.refl _ _).drew.trans hb3); have HZ3 := Lib.hid (HZW.out w3 hbw); obtain ⟨⟨x0, x1, x2, xf, xsz⟩, ⟨y0, y1, y2, yf, ysz⟩, ⟨z0, z1, z2, zf, zsz⟩⟩ := HZ3.out.1; clear hbw hb3)
      all_goals
        go_wp2_with fail
        exact bodyPost_ret (v := .tuple #[circV 0 (.slice none 0 0) (.slice none 0 0), faultV 101 true ps]) (finB_res (c := 101) (k := ps) HZ3.out.1 rfl rfl) rfl (finB_post HF.out rfl HZ3.out.2)
    · have hne := str_ne (HOK.out.at (show 0 < ws.length by omega)).2.1 aag_bts ht
      rw [aag_toList] at hne
      clear HH
      go_enter Tryd.func8, Tryd.ntmps8
      go_wp2_with fail
      refine HSP.out.mono ?_
      rintro e1 w1 ⟨⟨u, rfl, hr⟩, hb1⟩
      have HR := Lib.hid hr
      have HB1 := Lib.hid (show Below (w.heap.size + 3) _ w1 from HS3.out ▸ hb1)
      obtain ⟨au, cu, rfl, hcu1, hcu2, hwo⟩ := hr
      unfold maxLen at hcu2
      obtain ⟨a0, a1, a2, af, asz⟩ := (HZ.out.low HB1.out).2.2
      have HZW : Hid (∀ W, Below w1.heap.size w1 W → ZB W w.heap.size ∧ Below w.heap.size w W) := fun W hW => ⟨HZ.out.low (HB1.out.trans (hW.mono (by have := HB1.out.size; rw [HS3.out] at this; exact this))), (HB3.out.trans (HB1.out.mono (by omega))).trans (hW.mono (by have := HB1.out.size; rw [HS3.out] at this; omega))⟩
      obtain ⟨g, rfl, hw⟩ := hwo.resolve_left hl0
      have g0 : w1.cell? ⟨g, 0, none⟩ = some (.string (strOfNums (txt ws 0))) := by have := hw.text 0 (by omega); rwa [Nat.zero_mul] at this
      have hg := hw.sq
      clear hw hwo ht
      generalize strOfNums (txt ws 0) = tx at *
      generalize ws.length = m at *
      have hm0 : ((m : Int) == 0) = false := by simp; omega
      have hm1 : (0 : Int) < m := by omega
      go_wp2_with fail
      go_region_with (go_at_call 21; refine (HTX.out _ _ (by first | exact HR.out | exact HR.out.keep (Below.refl _ _).drew)).mono ?_; rintro e3 w3 ⟨rfl, hb3⟩; have hbw : Below w1.heap.size w1 w3 := (by first | exact hb3 | exact (Below.refl _ _).drew.trans hb3); have HZ3 := Lib.hid (HZW.out w3 hbw); obtain ⟨⟨x0, x1, x2, xf, xsz⟩, ⟨y0, y1, y2, yf, ysz⟩, ⟨z0, z1, z2, zf, zsz⟩⟩ := HZ3.out.1; clear hbw hb3)
      all_goals
        go_wp2_with fail
        exact bodyPost_ret (v := .tuple #[circV 0 (.slice none 0 0) (.slice none 0 0), faultV 101 true ps]) (finB_res (c := 101) (k := ps) HZ3.out.1 rfl rfl) rfl (finB_post HF.out rfl HZ3.out.2)
end Go.Proofs.YtcefeidfmnggaaaDoor
