/- The contract of qdimacs.readBlocks. Conditions: the slice reads as words, each of some bytes; the errors lie as 'Sents8' says. -/
import Derived.Test.YtfoohdknjacenaaDoorBlkD
namespace Go.Proofs.YtfoohdknjacenaaDoor
open Go.RowKit

theorem own_shape2 {w : World} {B s : Nat} {e : TypeId} {v : Value} {n : Nat} {xs : List Value} (h : w.ownsRow B e s v n xs) : ∃ a cap, v = .slice a n cap ∧ n ≤ cap ∧ cap ≤ maxLen := by
  rcases h.2 with ⟨e0, e1⟩ | ⟨g, cap, cur, hv, hb, hg, h1, h2, _⟩
  · exact ⟨none, 0, by rw [e0, e1], by omega, by unfold maxLen; omega⟩
  · exact ⟨_, cap, hv, h1, h2⟩

def RBPost (A : Nat → Addr) (w : World) (ws : List Wd) (e : Int) (R : List Blk × Nat × Flt) (r : Ending) (w' : World) : Prop :=
  (∃ bv rv ov, r = .returned (.tuple #[bv, rv, ov]) ∧ BRow w' w.heap.size bv R.1 ∧ OutV A w.heap.size w' ws e ov R.2.2 ∧ (R.2.2.isOk = true → WRowO w rv (ws.drop R.2.1))) ∧ Below w.heap.size w w'
theorem isBlk_two {x : Wd} (h : isBlk x = true) : x.1 = [97] ∨ x.1 = [101] := by
  unfold isBlk at h
  simp at h
  exact h.2

set_option maxHeartbeats 4000000 in
theorem readBlocks_any (A : Nat → Addr) (v : Value) (ws : List Wd) (e : Int) (vn : Nat) (w : World) (hS : Sents8 w A) (hv : WRowO w v ws) (hok : WOk ws) (hn : ws.length ≤ 4000) (hvn : vn ≤ 4000) :
    Calls Tryd.prog 16 #[v, .int .i64 e, .int .i64 (vn : Int)] w (RBPost A w ws e (blkS (vn : Int) 0 ws [] [] none)) := by
  have HRV : Hid (∀ (u : Value) (k : Nat) W met bits, WRowO w u (ws.drop k) → Below w.heap.size w W → CelG Value.bool false W w.heap.size bits → MkL (vn + 1) met bits → Calls Tryd.prog 32 #[u, .int .i64 e, .slice (some ⟨w.heap.size, 0, none⟩) (vn + 1) (vn + 1)] W (RVPost A w.heap.size (vn + 1) w W (ws.drop k) e (varsL (vn : Int) 0 (ws.drop k) met []))) := fun u k W met bits hu hW hc hm => by
    have := readVars_any A u (ws.drop k) e w.heap.size (vn + 1) met bits w W hS hu (hok.drop k) (by rw [List.length_drop]; omega) hW (Nat.le_refl _) hc hm
    rw [show (((vn + 1 : Nat) : Int) - 1) = (vn : Int) by omega] at this
    exact this
  unfold RVPost at HRV
  have HBG := Lib.hid (fun (k : Nat) (hk : k < ws.length) W => begins_any (txt ws k) (ws.getD k wd0).2.1 (ws.getD k wd0).2.2 W (hok.at hk).2.1)
  have hpost : ∀ W (R : List Blk × Nat × Flt) bv rv ov, blkS (vn : Int) 0 ws [] [] none = R → Below w.heap.size w W → BRow W w.heap.size bv R.1 → OutV A w.heap.size W ws e ov R.2.2 → (R.2.2.isOk = true → WRowO w rv (ws.drop R.2.1)) → RBPost A w ws e (blkS (vn : Int) 0 ws [] [] none) (.returned (.tuple #[bv, rv, ov])) W := fun W R bv rv ov hR hb h1 h2 h3 => by
    rw [hR]
    exact ⟨⟨bv, rv, ov, rfl, h1, h2, h3⟩, hb⟩
  have HPOST := Lib.hid hpost; clear hpost
  have HV0 := Lib.hid hv
  obtain ⟨a0, cap0, rfl, _, _, _⟩ := hv
  clear hS hok
  generalize hR : blkS (vn : Int) 0 ws [] [] none = R at *
  have HR := Lib.hid hR; clear hR
  generalize hP : RBPost A w ws e R = P at *
  clear hP
  have HNN := Lib.hid hn; clear hn
  generalize hN : ws.length = n0 at *
  have HN := Lib.hid hN; clear hN
  go_enter Tryd.func16, Tryd.ntmps16
  have hmk : (w.heap.size : Nat) = w.heap.size := rfl
  go_wp2_with (at_make; refine wpList_makeG Value.bool false _ _ 1 Tryd.underlying77 infoBl rfl (by decide) rfl _ _ rfl _ (vn + 1) rfl rfl (by omega) ?_; intro w1 hc1 hb1 hlt1)
  clear hmk
  go_loopw [0, 9, 11, 12, 13] (fun rv bv _ _ _ wr => ∃ (k : Nat) (met : List Int) (bits : List Bool) (dn : List Blk) (fl : List Value), k ≤ n0 ∧ WRowO w rv (ws.drop k) ∧ BlG wr (w.heap.size + 1) bv dn fl ∧ CelG Value.bool false wr w.heap.size bits ∧ MkL (vn + 1) met bits ∧ Below w.heap.size w wr ∧ w.heap.size + 1 ≤ wr.heap.size ∧ dn.length ≤ k ∧ Hid (blkS (vn : Int) k (ws.drop k) met dn none = R)) (fun rv _ _ _ _ _ => (match rv with | .slice _ n _ => n | _ => 0))
  case atStart => exact ⟨0, [], _, [], [], Nat.zero_le _, HV0.out, BlG.start _ _, hc1, MkL.start _, hb1, hlt1, Nat.le_refl _, HR.out⟩
  case round =>
    obtain ⟨k, met, bits, dn, fl, hk, hrv, hbl, hcl, hml, hbr, hsr, hdk, HQ⟩ := hrel
    clear hc1 hb1 hlt1
    have HRW := Lib.hid hrv
    obtain ⟨ar, cr, rfl, hr1, hr2, hr3⟩ := hrv
    obtain ⟨ao, co, rfl, hco1, hco2⟩ := own_shape2 hbl.out
    unfold maxLen at hr2 hco2
    have hlen : (ws.drop k).length = n0 - k := by rw [List.length_drop, HN.out]
    rw [hlen] at hr1 hr3 HRW ⊢
    clear hlen
    have HBL := Lib.hid hbl; clear hbl
    have HCL := Lib.hid hcl; clear hcl
    have HML := Lib.hid hml; clear hml
    have HBR := Lib.hid hbr; clear hbr
    by_cases hlt : k < n0
    · have hkl : k < ws.length := by rw [HN.out]; exact hlt
      obtain ⟨g, off, ha, hw⟩ := hr3.resolve_left (by omega)
      subst ha
      have hg0 : (ws.drop k).getD 0 wd0 = ws.getD k wd0 := by simp [List.getD]
      have hl0 : 0 < (ws.drop k).length := by rw [List.length_drop]; omega
      have HCE : Hid (∀ W, Below w.heap.size w W → W.cell? ⟨g, off, none⟩ = some (.string (strOfNums (txt ws k))) ∧ W.cell? ⟨g, off + 1, none⟩ = some (.int .i64 (ws.getD k wd0).2.1) ∧ W.cell? ⟨g, off + 2, none⟩ = some (.bool (ws.getD k wd0).2.2)) := fun W hW => by
        have h := hw.keep hW
        have h1 := h.text 0 hl0
        have h2 := h.pos 0 hl0
        have h3 := h.fst 0 hl0
        rw [hg0] at h1 h2 h3
        rw [Nat.zero_mul, Nat.add_zero] at h1 h2 h3
        exact ⟨h1, h2, h3⟩
      have HBGK := Lib.hid (HBG.out k hlt)
      rw [show isBlk (txt ws k, (ws.getD k wd0).2.1, (ws.getD k wd0).2.2) = isBlk (ws.getD k wd0) from rfl] at HBGK
      have HCUT : Hid (∀ (a : Option Addr) (c' : Nat), n0 - k - 1 ≤ c' → c' ≤ 9223372036854775807 → (a = some ⟨g, off + 3, none⟩ ∨ n0 - k ≤ 1) → WRowO w (.slice a (n0 - k - 1) c') (ws.drop (k + 1))) := fun a c' h1 h2 h3 => by
        have := wrowO_cut (n := n0 - k) (.inr hw) (by rw [List.length_drop, HN.out]) 1 a c' h1 h2 (by simpa using h3)
        rwa [List.drop_drop] at this
      clear hw hg0 hl0 hr3
      obtain ⟨t1, t2, t3⟩ := HCE.out _ HBR.out
      have HSTOP := Lib.hid (fun (h : isBlk (ws.getD k wd0) = false) => bs_stop (vars := (vn : Int)) (met := met) (done := dn) hkl h)
      have HBLK := Lib.hid (fun (h : isBlk (ws.getD k wd0) = true) => bs_block (vars := (vn : Int)) (met := met) (done := dn) hkl h)
      have HFT := Lib.hid (fun h => vr_fault (vars := (vn : Int)) (ws := ws.drop (k + 1)) (k := 0) (met := met) (acc := []) h)
      have HRVK := Lib.hid (fun u W hu hW hc => HRV.out u (k + 1) W met bits hu hW hc HML.out)
      have hm1 : 1 ≤ n0 - k := by omega
      have hmlen : n0 - k ≤ n0 := by omega
      have HMK := Lib.hid (show n0 - k + k = n0 by omega)
      generalize hmm : n0 - k = m at *
      clear hmm
      have hmi : (0 : Int) < (m : Int) := by omega
      generalize hdl : dn.length = d at *
      have HDL := Lib.hid hdl; clear hdl
      have hbs := HBR.out.size
      cases hb : isBlk (ws.getD k wd0) with
      | false =>
        have HE := Lib.hid (HQ.out.symm.trans (HSTOP.out hb))
        rw [hb] at HBGK
        clear HSTOP HBLK HFT HRVK HCUT HQ hb
        generalize strOfNums (txt ws k) = s at *
        generalize (ws.getD k wd0).2.1 = ps at *
        generalize (ws.getD k wd0).2.2 = fs at *
        go_wp2_with (go_at_call 31; refine (HBGK.out _).mono ?_; rintro e2 w2 ⟨rfl, hb2⟩)
        (try simp only [Exit.inBlock, Exit.then]); refine bodyPost_ret (results_tmp3 rfl _ _ _) rfl ?_
        exact HPOST.out _ _ _ _ _ HE.out (HBR.out.trans (hb2.mono hbs)) ⟨fl, (HBL.out.keep hb2).mono (by omega)⟩ rfl (fun _ => HRW.out)
      | true =>
        obtain ⟨hB1, hB2⟩ := HBLK.out hb
        have HB1 := Lib.hid hB1; clear hB1
        have HB2 := Lib.hid hB2; clear hB2
        have HTWO := Lib.hid (isBlk_two hb)
        rw [hb] at HBGK
        clear HSTOP HBLK hb
        have HEX : Hid (∀ t, txt ws k = t → exB (ws.getD k wd0) = (t == [101])) := fun t h => by rw [← h]; rfl
        generalize varsL (vn : Int) 0 (ws.drop (k + 1)) met [] = V at *
        obtain ⟨l, j, met2, f⟩ := V
        dsimp only at HB1 HB2 HFT HRVK
        cases hf : f.isOk with
        | false =>
          obtain ⟨i, rfl⟩ := HFT.out hf
          have HE := Lib.hid (HQ.out.symm.trans (HB2.out i rfl))
          have HPD := Lib.hid (posL_drop ws (k + 1) i e)
          clear HB1 HB2 HFT HQ hf HEX HTWO
          generalize strOfNums (txt ws k) = s at *
          generalize (ws.getD k wd0).2.1 = ps at *
          generalize (ws.getD k wd0).2.2 = fs at *
          by_cases hc1 : cr = 1
          all_goals
            go_wp2_with (first
              | (go_at_call 31; refine (HBGK.out _).mono ?_; rintro e2 w2 ⟨rfl, hb2⟩; have hbw2 := HBR.out.trans (hb2.mono hbs))
              | (go_at_call 32; refine (HRVK.out _ _ (HCUT.out _ _ (by omega) (by omega) (by first | exact .inl rfl | exact .inr (by omega))) hbw2 (HCL.out.keep hb2)).mono ?_; rintro e3 w3 ⟨⟨lv, rv3, ov, bits3, rfl, hO, hc3, hm3, _⟩, ho3⟩; obtain ⟨b3, hb3, rfl, hx0, hx1⟩ := hO))
            (try simp only [Exit.inBlock, Exit.then]); refine bodyPost_ret (results_tmp3 rfl _ _ _) rfl ?_
            refine HPOST.out _ _ _ _ _ HE.out (ho3.below hbw2 hbw2.size (Nat.le_refl _)) (BRow.nil _ _) ?_ (fun h => by cases h)
            show AtB A w.heap.size w3 _ (posL ws (k + 1 + i) e) 0
            rw [← HPD.out]
            exact ⟨b3, by have := hbw2.size; omega, rfl, hx0, hx1⟩
        | true =>
          obtain ⟨hj1, hj2, hj3⟩ := HB1.out hf
          have HQ2 := Lib.hid (hj3.symm.trans HQ.out); clear hj3
          obtain rfl : f = .ok := (isOk_iff f).1 hf
          clear HB1 HB2 HFT HQ hf
          have hs : ∃ (s : ByteArray) (ex : Bool), strOfNums (txt ws k) = s ∧ exB (ws.getD k wd0) = ex ∧ ((s = ⟨#[97]⟩ ∧ ex = false) ∨ (s = ⟨#[101]⟩ ∧ ex = true)) := by
            rcases HTWO.out with h | h
            · exact ⟨_, _, rfl, rfl, .inl ⟨by show strOfNums (ws.getD k wd0).1 = _; rw [h]; rfl, by rw [HEX.out _ h]; rfl⟩⟩
            · exact ⟨_, _, rfl, rfl, .inr ⟨by show strOfNums (ws.getD k wd0).1 = _; rw [h]; rfl, by rw [HEX.out _ h]; rfl⟩⟩
          obtain ⟨s, ex, hs1, hs2, hs3⟩ := hs
          rw [hs1] at t1 HBGK HCE
          rw [hs2] at HQ2
          clear hs1 hs2 HEX HTWO
          generalize (ws.getD k wd0).2.1 = ps at *
          generalize (ws.getD k wd0).2.2 = fs at *
          have HJ := Lib.hid hj1; clear hj1 hj2
          rcases hs3 with ⟨rfl, rfl⟩ | ⟨rfl, rfl⟩
          all_goals
            by_cases hc1 : cr = 1
            all_goals
              go_wp2_with (first
                | (go_at_call 31; refine (HBGK.out _).mono ?_; rintro e2 w2 ⟨rfl, hb2⟩; have hbw2 := HBR.out.trans (hb2.mono hbs))
                | (go_at_call 32; refine (HRVK.out _ _ (HCUT.out _ _ (by omega) (by omega) (by first | exact .inl rfl | exact .inr (by omega))) hbw2 (HCL.out.keep hb2)).mono ?_; rintro e3 w3 ⟨⟨lv, rv3, ov, bits3, rfl, hO, hc3, hm3, hok3⟩, ho3⟩; obtain rfl : ov = .nilIface := hO; obtain ⟨hlv, hrv3⟩ := hok3 rfl; have hbw3 := ho3.below hbw2 hbw2.size (Nat.le_refl _); obtain ⟨y1, y2, y3⟩ := HCE.out _ hbw3; obtain ⟨al, cl, rfl, _, _⟩ := own_shape hlv; have HBL3 := Lib.hid ((HBL.out.keep hb2).only ho3 (Nat.lt_succ_self _)); have hout3 := HBL3.out.out; rw [HDL.out] at hout3; have hs3 := ho3.size; have hs2 := hb2.size)
                | (at_builtin; refine wpList_appS 28 32 _ 2 32 Tryd.underlying28 infoBlk rfl (by decide) (by decide) rfl _ _ rfl w3 (w.heap.size + 1) _ d fl [.bool _, .slice al l.length cl] (by intro y hy; simp at hy; rcases hy with rfl | rfl <;> rfl) rfl hout3 (by omega) (by have := HNN.out; omega) _ rfl rfl rfl ?_; intro o' w4 hown4 hap4))
              rw [List.drop_drop] at hrv3
              obtain ⟨a5, c5, rfl, h51, h52⟩ := hrv3
              go_roundw
              case rel =>
                exact ⟨k + 1 + j, met2, bits3, dn ++ [(_, l)], fl ++ [_, _], by have := HJ.out; rw [HN.out] at this; exact this, ⟨a5, c5, rfl, h51, h52⟩, HBL3.out.push (own_base hlv (by omega)) (fun g e1 e2 => by have h1 := (hlv.lt g e1).1; have h2 := own_ltG (HBL.out.keep hb2).out e2; omega) hap4 (by rw [HDL.out]; exact hown4), hc3.keepB hap4.below (Nat.lt_succ_self _), hm3, hbw3.trans (hap4.below.mono (by omega)), by have := hap4.below.size; omega, by rw [List.length_append, HDL.out, List.length_singleton]; omega, HQ2.out⟩
              case measure => show (ws.drop (k + 1 + j)).length < m; rw [List.length_drop]; have h1 := HMK.out; have h2 := HN.out; omega
    · have hm0 : n0 - k = 0 := by omega
      have HE := Lib.hid (HQ.out.symm.trans (bs_end (by rw [HN.out]; omega)))
      rw [hm0] at HRW ⊢
      clear HQ hr1 hr3 hm0
      generalize hdl : dn.length = d at *
      have HDL := Lib.hid hdl; clear hdl
      go_wp2_with fail
      (try simp only [Exit.inBlock, Exit.then]); refine bodyPost_ret (results_tmp3 rfl _ _ _) rfl ?_
      exact HPOST.out _ _ _ _ _ HE.out HBR.out ⟨fl, HBL.out.mono (by omega)⟩ rfl (fun _ => HRW.out)
end Go.Proofs.YtfoohdknjacenaaDoor
