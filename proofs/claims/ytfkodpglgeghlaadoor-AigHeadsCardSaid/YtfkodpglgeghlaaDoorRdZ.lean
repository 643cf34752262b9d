/- Contract of the reader's circuit. Conditions: the reader lies as 'RdM' says, its words are some bytes each; the errors lie as 'Sents' says. · Plain facts: each word of a text is some of its bytes; there are no more words than bytes. Nothing of the program. · Contract of aag.Read: what a text's words tell ('readR'). Conditions: the slice reads as bytes, few of them; the errors lie as 'Sents' says. -/
import Derived.Test.YtfkodpglgeghlaaDoorCrm
import Derived.Test.YtfkodpglgeghlaaDoorHeadP
import Derived.Test.YtfkodpglgeghlaaDoorWRow
namespace Go.Proofs.YtfkodpglgeghlaaDoor
open Go.RowKit

set_option maxHeartbeats 8000000 in
theorem circ_main {A : Nat → Addr} {p g : Nat} {e : Int} {ws : List Wd} {w : World} (h : RdM w p g e ws) (hS : SentsP A p w) (hok : WOk ws) (hs : List (Int × Int)) (ws1 : List Wd) (hh : headR e ws = .got hs ws1) (hck : checkR hs = none) (hok1 : WOk ws1)
    (I M O G : Nat) (hI : hn hs 1 = (I : Int)) (hM : hn hs 0 = (M : Int)) (hO : hn hs 3 = (O : Int)) (hG : hn hs 4 = (G : Int)) (hb1 : I ≤ 8000) (hb2 : M ≤ 8000) (hb3 : O ≤ 8000) (hb4 : G ≤ 8000) :
    Calls Tryd.prog 40 #[.pointer (some ⟨p, 0, none⟩)] w (CircP A w p (contI e I M O G I 0 ws1)) := by
  have hpl : p < w.heap.size := h.2.2.2.1
  have hgl : g < w.heap.size := h.2.2.2.2.1
  have HB0 := Lib.hid ((Below.refl w.heap.size w).alloc (Nat.le_refl _) circ0)
  have HC0 := Lib.hid (CB.start w 0 (.slice none 0 0) (.slice none 0 0) 27)
  have HH : Hid (Calls Tryd.prog 55 #[.pointer (some ⟨p, 0, none⟩)] (w.alloc circ0) fun r w' => r = .returned (.tuple #[headV hs, .nilIface]) ∧ RdM w' p g e ws1 ∧ Chg [p] (w.alloc circ0) w') := by
    have h1 := head_any A p g e ws _ (h.chg HB0.out) (hS.chg (Chg.of_below HB0.out)) hok
    refine h1.mono fun r w' hr => ?_
    rw [hh] at hr
    unfold HeadP at hr
    simp only [hck] at hr
    exact hr
  have HJU := Lib.hid (fun n ws' W (hr : RdM W p g e ws') (hW : Chg [p] w W) (hok : WOk ws') => just_any A p g e n ws' W hr (hS.chg hW) hok)
  have HNU := Lib.hid (fun most ws' W (hr : RdM W p g e ws') (hW : Chg [p] w W) (hok : WOk ws') => numb_any A p g e most true ws' W hr (hS.chg hW) hok)
  have HGU := Lib.hid (fun n ws' W (hr : RdM W p g e ws') (hW : Chg [p] w W) (hok : WOk ws') => gate_any A p g e n ws' W hr (hS.chg hW) hok)
  have HBU := Lib.hid (fun ws' W (hr : RdM W p g e ws') (hW : Chg [p] w W) (hok : WOk ws') => behind_any A p g e ws' W hr (hS.chg hW) hok)
  clear h hS hok hh hck
  have HOK1 := Lib.hid hok1; clear hok1
  have HX : Hid (∃ F, F = contI e I M O G I 0 ws1) := ⟨_, rfl⟩
  obtain ⟨F, hF⟩ := HX.out
  have HF1 : Hid (contI e I M O G (I - 0) 0 ws1 = F) := by unfold Hid; rw [hF, Nat.sub_zero]
  rw [← hF]
  clear hF HX
  have HNUM := Lib.hid (And.intro hM (And.intro hI (And.intro hO hG))); clear hM hI hO hG
  unfold circ0 at *
  go_enter Tryd.func40, Tryd.ntmps40
  go_wp2_with fail
  refine HH.out.mono ?_
  rintro e1 w1 ⟨rfl, hr, hch⟩
  have hsz := hch.size
  simp at hsz
  generalize hW0 : w.alloc (.cells #[.int .i64 0, .slice none 0 0, .slice none 0 0] 27) = W0 at *
  have hz0 : W0.heap.size = w.heap.size + 1 := by rw [← hW0]; simp
  have HZ0 := Lib.hid hz0
  clear HH hW0 hz0
  have HN0 := HN.start w1 hs 96
  obtain ⟨nM, nI, nO, nG⟩ := HNUM.out
  have HV : Hid (headV hs = .agg #[.int .i64 (M : Int), .int .i64 (hp hs 0), .int .i64 (I : Int), .int .i64 (hp hs 1), .int .i64 (hn hs 2), .int .i64 (hp hs 2), .int .i64 (O : Int), .int .i64 (hp hs 3), .int .i64 (G : Int), .int .i64 (hp hs 4)]) := by unfold Hid headV; rw [nM, nI, nO, nG]
  rw [nM, nI, nO, nG] at HN0
  rw [HV.out]
  clear nM nI nO nG HV HNUM
  generalize hp hs 0 = p0 at *
  generalize hp hs 1 = p1 at *
  generalize hp hs 2 = p2 at *
  generalize hp hs 3 = p3 at *
  generalize hp hs 4 = p4 at *
  generalize hn hs 2 = n2 at *
  have HST : Hid (RdM (w1.alloc (.cells #[.int .i64 (M : Int), .int .i64 p0, .int .i64 (I : Int), .int .i64 p1, .int .i64 n2, .int .i64 p2, .int .i64 (O : Int), .int .i64 p3, .int .i64 (G : Int), .int .i64 p4] 96)) p g e ws1 ∧ HN (w1.alloc (.cells #[.int .i64 (M : Int), .int .i64 p0, .int .i64 (I : Int), .int .i64 p1, .int .i64 n2, .int .i64 p2, .int .i64 (O : Int), .int .i64 p3, .int .i64 (G : Int), .int .i64 p4] 96)) w1.heap.size M I O G ∧ Chg [p] W0 (w1.alloc (.cells #[.int .i64 (M : Int), .int .i64 p0, .int .i64 (I : Int), .int .i64 p1, .int .i64 n2, .int .i64 p2, .int .i64 (O : Int), .int .i64 p3, .int .i64 (G : Int), .int .i64 p4] 96))) :=
    ⟨hr.chg ((Below.refl _ _).alloc (Nat.le_refl _) _), HN0, hch.alloc _⟩
  have HQ1 : Hid (w.heap.size + 1 ≤ w1.heap.size ∧ w.heap.size ≠ p ∧ w.heap.size ≠ g ∧ w1.heap.size ≠ p ∧ w1.heap.size ≠ g) := by unfold Hid; omega
  go_wp2_with fail
  generalize w1.heap.size = q4 at *
  generalize w1.alloc (.cells #[.int .i64 (M : Int), .int .i64 p0, .int .i64 (I : Int), .int .i64 p1, .int .i64 n2, .int .i64 p2, .int .i64 (O : Int), .int .i64 p3, .int .i64 (G : Int), .int .i64 p4] 96) = w2 at *
  clear hr hch HN0 hsz
  have HBAD : Hid (∀ wr, Chg [p] W0 wr → ∀ w3 ev k', F = badC (false, k') → AtB A wr.heap.size w3 ev k' 0 → Chg [p] wr w3 → CB w3 w.heap.size 0 (.slice none 0 0) (.slice none 0 0) ∧ CircP A w p F (.returned (.tuple #[circV 0 (.slice none 0 0) (.slice none 0 0), ev])) (set3 w3 w.heap.size (.int .i64 0) (.slice none 0 0) (.slice none 0 0)) ∧ ∀ o, CircP A w p F (.returned (.tuple #[circV 0 (.slice none 0 0) (.slice none 0 0), ev])) ((set3 w3 w.heap.size (.int .i64 0) (.slice none 0 0) (.slice none 0 0)).alloc o)) := fun wr hch w3 ev k' hF hat h3 => by
    have hs := hch.size
    rw [HZ0.out] at hs
    have hp := HQ1.out.2.1
    refine ⟨(HC0.out.chg hch (by simpa using hp)).chg h3 (by simpa using hp), ?_, fun o => ?_⟩
    · rw [hF]
      exact circ_bad (set3_at hat (by omega)) (by omega) (set3_chg ((Chg.old HB0.out hch).more h3) (.inr (Nat.le_refl _)))
    · rw [hF]
      exact circ_bad ((set3_at hat (by omega)).keep ((Below.refl _ _).alloc (Nat.le_refl _) _)) (by omega) ((set3_chg ((Chg.old HB0.out hch).more h3) (.inr (Nat.le_refl _))).alloc _)
  go_loopw [27] (fun i wr => ∃ (k : Nat) (rest : List Wd), k ≤ I ∧ i = .int .i64 k ∧ Hid (RdM wr p g e rest ∧ HN wr q4 M I O G ∧ Chg [p] W0 wr ∧ WOk rest ∧ contI e I M O G (I - k) k rest = F)) (fun i _ => I - (intOf i).toNat)
  case atStart => exact ⟨0, ws1, Nat.zero_le _, rfl, HST.out.1, HST.out.2.1, HST.out.2.2, HOK1.out, HF1.out⟩
  case round =>
    obtain ⟨k, rest, hk, rfl, HH⟩ := hrel
    clear HST HF1
    obtain ⟨hrd, hhn, hch, hokr, hfr⟩ := HH.out
    clear HH
    by_cases hlt : k < I
    · have hcw := Chg.old HB0.out hch
      have HJ := Lib.hid (HJU.out (2 * ((k : Int) + 1)) rest wr hrd hcw hokr)
      have HL := Lib.hid (fun W => literal_any ((k : Int) + 1) W (by omega) (by omega))
      have HB := Lib.hid (HBAD.out wr hch)
      obtain ⟨r, hr5⟩ : ∃ r, I - k = r + 1 := ⟨I - k - 1, by omega⟩
      rw [hr5, contI] at hfr
      cases hnx : justR (2 * ((k : Int) + 1)) e rest with
      | bad q =>
        rw [hnx] at HJ hfr
        simp only at hfr
        have HF := Lib.hid hfr.symm
        clear hfr hnx hr5 hrd hhn hch hokr hcw HBAD HJU HNU HGU HBU
        go_wp2_with (go_at_call 42; refine (HL.out _).mono ?_; rintro e4 w4 ⟨rfl, rfl⟩)
        refine HJ.out.mono ?_
        rintro e3 w3 ⟨ev, rfl, hat, hch3⟩
        obtain ⟨hcb, hpost, _⟩ := HB.out w3 ev q HF.out hat hch3
        have HCB := Lib.hid hcb
        have HPO := Lib.hid hpost
        obtain ⟨c0, c1, c2, cf, cs⟩ := hcb
        obtain ⟨b, hB, rfl, k0, k1⟩ := hat
        clear k0 k1 hch3 hpost
        go_wp2_with fail
        exact bodyPost_ret (v := .tuple #[circV 0 (.slice none 0 0) (.slice none 0 0), .iface 73 (.pointer (some ⟨b, 0, none⟩))]) (res3 (HCB.out.set3 0 (.slice none 0 0) (.slice none 0 0)) rfl rfl) rfl HPO.out
      | got u rest' =>
        rw [hnx] at HJ hfr
        simp only at hfr
        have HR : Hid (∀ w3, RdM w3 p g e rest' → Chg [p] wr w3 → ∃ (k' : Nat) (rest'' : List Wd), k' ≤ I ∧ Value.int .i64 ((k : Int) + 1) = .int .i64 k' ∧ Hid (RdM w3 p g e rest'' ∧ HN w3 q4 M I O G ∧ Chg [p] W0 w3 ∧ WOk rest'' ∧ contI e I M O G (I - k') k' rest'' = F)) := fun w3 hr3 h3 =>
          ⟨k + 1, rest', by omega, by simp, hr3, hhn.chg h3 (by have := HQ1.out.2.2.2.1; simpa using this), hch.more h3, justR_rest hnx hokr, by rw [show I - (k + 1) = r by omega]; exact hfr⟩
        clear hfr hnx hr5 hrd hhn hch hokr hcw HBAD HJU HNU HGU HBU HB
        go_wp2_with (go_at_call 42; refine (HL.out _).mono ?_; rintro e4 w4 ⟨rfl, rfl⟩)
        refine HJ.out.mono ?_
        rintro e3 w3 ⟨rfl, hr3, hch3⟩
        have HRR := Lib.hid (HR.out w3 hr3 hch3)
        clear hr3 hch3
        go_wp2_with fail
        go_roundw
        case rel => exact HRR.out
        case measure => simp [intOf]; omega
    · have hkI : I = k := by omega
      subst hkI
      rename World => wq
      rw [Nat.sub_self, contI] at hfr
      have HHN := Lib.hid hhn
      obtain ⟨g0, g1, g2, g3, g4⟩ := hhn
      have hq8 := hch.size
      rw [HZ0.out] at hq8
      go_wp2_with fail
      clear g0 g1 g2 g3
      have HQ8 : Hid (w.heap.size < wq.heap.size ∧ p < wq.heap.size ∧ g < wq.heap.size ∧ q4 < wq.heap.size) := by unfold Hid; omega
      have HBA := Lib.hid ((Below.refl wq.heap.size wq).alloc (Nat.le_refl _) (.cells #[.int .i64 (I : Int), .slice none 0 0, .slice none 0 0] 27))
      have HS5 : Hid (RdM (wq.alloc (.cells #[.int .i64 (I : Int), .slice none 0 0, .slice none 0 0] 27)) p g e rest ∧ HN (wq.alloc (.cells #[.int .i64 (I : Int), .slice none 0 0, .slice none 0 0] 27)) q4 M I O G ∧ CB (wq.alloc (.cells #[.int .i64 (I : Int), .slice none 0 0, .slice none 0 0] 27)) wq.heap.size I (.slice none 0 0) (.slice none 0 0) ∧ Chg [p] W0 (wq.alloc (.cells #[.int .i64 (I : Int), .slice none 0 0, .slice none 0 0] 27)) ∧ wq.heap.size + 1 ≤ (wq.alloc (.cells #[.int .i64 (I : Int), .slice none 0 0, .slice none 0 0] 27)).heap.size) :=
        ⟨hrd.chg HBA.out, HHN.out.chg (S := []) (Chg.of_below HBA.out) (by simp), CB.start _ _ _ _ _, hch.alloc _, by simp⟩
      have HOKR := Lib.hid hokr
      have HFR := Lib.hid hfr
      clear hrd hch hokr hfr HHN HBA hk hlt g4 hq8
      generalize wq.alloc (.cells #[.int .i64 (I : Int), .slice none 0 0, .slice none 0 0] 27) = w5 at *
      generalize wq.heap.size = q8 at *
      go_loopw [47] (fun i wr => ∃ (k : Nat) (v : Value) (os : List Int) (rest : List Wd), k ≤ O ∧ i = .int .i64 k ∧ Hid (RdM wr p g e rest ∧ HN wr q4 M I O G ∧ CB wr q8 I (.slice none 0 0) v ∧ wr.ownsRow (q8 + 1) 3 1 v k (os.map (Value.int .i64)) ∧ os.length = k ∧ Chg [p] W0 wr ∧ WOk rest ∧ q8 + 1 ≤ wr.heap.size ∧ contO e I M G (O - k) rest os = F)) (fun i _ => O - (intOf i).toNat)
      case atStart => exact ⟨0, _, [], rest, Nat.zero_le _, rfl, HS5.out.1, HS5.out.2.1, HS5.out.2.2.1, World.ownsRow_nil _ _ _ _, rfl, HS5.out.2.2.2.1, HOKR.out, HS5.out.2.2.2.2, by rw [Nat.sub_zero]; exact HFR.out⟩
      case round =>
        obtain ⟨k, v, os, rest, hk, rfl, HH⟩ := hrel
        clear HS5 HOKR HFR
        obtain ⟨hrd, hhn, hcb, hown, hol, hch, hokr, hsw, hfr⟩ := HH.out
        clear HH
        by_cases hlt : k < O
        · have hcw := Chg.old HB0.out hch
          have HJ := Lib.hid (HNU.out (2 * (M : Int) + 1) rest wr hrd hcw hokr)
          have HL := Lib.hid (fun W => literal_any (M : Int) W (by omega) (by omega))
          have HB := Lib.hid (HBAD.out wr hch)
          obtain ⟨r, hr5⟩ : ∃ r, O - k = r + 1 := ⟨O - k - 1, by omega⟩
          rw [hr5, contO] at hfr
          obtain ⟨g0, g1, g2, g3, g4⟩ := hhn
          cases hnx : numbR true (2 * (M : Int) + 1) e rest with
          | bad q =>
            rw [hnx] at HJ hfr
            simp only at hfr
            have HF := Lib.hid hfr.symm
            clear hfr hnx hr5 hrd hcb hown hol hch hokr hcw HBAD HJU HNU HGU HBU
            go_wp2_with (go_at_call 42; refine (HL.out _).mono ?_; rintro e4 w4 ⟨rfl, rfl⟩)
            go_at_call 57
            refine HJ.out.mono ?_
            rintro e3 w3 ⟨ev, rfl, hat, hch3⟩
            obtain ⟨hcb, _, hpost⟩ := HB.out w3 ev q HF.out hat hch3
            have HCB := Lib.hid hcb
            have HPO := Lib.hid hpost
            obtain ⟨c0, c1, c2, cf, cs⟩ := hcb
            obtain ⟨b, hB, rfl, k0, k1⟩ := hat
            clear k0 k1 hch3 hpost g0 g1 g2 g3
            unfold cntV
            go_wp2_with fail
            exact bodyPost_ret (v := .tuple #[circV 0 (.slice none 0 0) (.slice none 0 0), .iface 73 (.pointer (some ⟨b, 0, none⟩))]) (res3 ((HCB.out.set3 0 (.slice none 0 0) (.slice none 0 0)).chg (S := []) (Chg.of_below ((Below.refl _ _).alloc (Nat.le_refl _) _)) (by simp)) rfl rfl) rfl (HPO.out _)
          | got y rest' =>
            rw [hnx] at HJ hfr
            simp only at hfr
            obtain ⟨hokr', _, _, _⟩ := numbR_rest hnx hokr
            obtain ⟨yn, yp⟩ := y
            simp only at hfr
            obtain ⟨ao, co, rfl, hco1, hco⟩ := own_shape hown
            unfold maxLen at hco
            have HHN := Lib.hid (show HN wr q4 M I O G from ⟨g0, g1, g2, g3, g4⟩)
            have HA : Hid (∀ w3, RdM w3 p g e rest' → Chg [p] wr w3 → w3.cell? ⟨q8, 2, none⟩ = some (.slice ao k co) ∧ q8 < w3.heap.size ∧ (w3.alloc (.cells #[.int .i64 yn, .int .i64 yp] 94)).ownsRow (q8 + 1) 3 1 (.slice ao k co) k (os.map (Value.int .i64)) ∧ q8 + 1 ≤ (w3.alloc (.cells #[.int .i64 yn, .int .i64 yp] 94)).heap.size ∧
                ∀ v' w6, w6.ownsRow (q8 + 1) 3 1 v' (k + 1) ((os ++ [yn]).map (Value.int .i64)) → App (q8 + 1) (w3.alloc (.cells #[.int .i64 yn, .int .i64 yp] 94)) w6 (.slice ao k co) v' → (w6.cell? ⟨q8, 2, none⟩ = some (.slice ao k co) ∧ (∀ o, w6.frozen? ⟨q8, o, none⟩ = false) ∧ q8 < w6.heap.size) ∧
                  ∃ (k' : Nat) (v'' : Value) (os' : List Int) (rest'' : List Wd), k' ≤ O ∧ Value.int .i64 ((k : Int) + 1) = .int .i64 k' ∧ Hid (RdM (w6.setCell ⟨q8, 2, none⟩ v') p g e rest'' ∧ HN (w6.setCell ⟨q8, 2, none⟩ v') q4 M I O G ∧ CB (w6.setCell ⟨q8, 2, none⟩ v') q8 I (.slice none 0 0) v'' ∧ (w6.setCell ⟨q8, 2, none⟩ v').ownsRow (q8 + 1) 3 1 v'' k' (os'.map (Value.int .i64)) ∧ os'.length = k' ∧ Chg [p] W0 (w6.setCell ⟨q8, 2, none⟩ v') ∧ WOk rest'' ∧ q8 + 1 ≤ (w6.setCell ⟨q8, 2, none⟩ v').heap.size ∧ contO e I M G (O - k') rest'' os' = F)) := fun w3 hr3 h3 => by
              obtain ⟨z1, z2, z3, z4⟩ := HQ8.out
              have hz := HZ0.out
              have hqp : q8 ∉ [p] := by simp; omega
              have hcb3 := hcb.chg h3 hqp
              have hcb4 := hcb3.chg (S := []) (Chg.of_below ((Below.refl _ _).alloc (Nat.le_refl _) (.cells #[.int .i64 yn, .int .i64 yp] 94))) (by simp)
              have hs3 := h3.size
              have ho3 := own_chg hown h3 (fun j hj => by have := (hown.lt j hj).1; simp; omega)
              refine ⟨hcb3.2.2.1, hcb3.2.2.2.2, own_keep ho3 ((Below.refl _ _).alloc (Nat.le_refl _) _), by simp; omega, fun v' w6 hown6 hap => ?_⟩
              have hcb6 := hcb4.low hap.below (Nat.lt_succ_self _)
              refine ⟨⟨hcb6.2.2.1, hcb6.2.2.2.1, hcb6.2.2.2.2⟩, k + 1, v', os ++ [yn], rest', by omega, by simp, ?_, ?_, hcb6.set2 v', ?_, by simp [hol], ?_, hokr', ?_, ?_⟩
              · exact (((hr3.chg ((Below.refl _ _).alloc (Nat.le_refl _) _)).low hap.below (by omega) (by omega)).set (by omega) (by omega))
              · exact ((((HHN.out.chg h3 (by have := HQ1.out.2.2.2.1; simpa using this)).chg (S := []) (Chg.of_below ((Below.refl _ _).alloc (Nat.le_refl _) _)) (by simp)).low hap.below (by omega)).chg (S := [q8]) ((Chg.refl _ _).setCell (.inl (by simp)) _) (by simp; omega))
              · exact ownsRow_setCell_below hown6 (a := ⟨q8, 2, none⟩) (Nat.lt_succ_self _) _
              · exact ((((hch.more h3).alloc _).low hap.below (by omega)).setCell (.inr (by show W0.heap.size ≤ q8; omega)) _)
              · have := hap.below.size; simp at this ⊢; omega
              · rw [show O - (k + 1) = r by omega]; exact hfr
            clear hfr hnx hr5 hrd hcb hown hol hch hokr hokr' hcw HBAD HJU HNU HGU HBU HB HHN
            go_wp2_with (go_at_call 42; refine (HL.out _).mono ?_; rintro e4 w4 ⟨rfl, rfl⟩)
            go_at_call 57
            refine HJ.out.mono ?_
            rintro e3 w3 ⟨rfl, hr3, hch3⟩
            obtain ⟨x2, xs2, hown4, hs4, HR4⟩ := HA.out w3 hr3 hch3
            have HRR := Lib.hid HR4
            have HO4 := Lib.hid hown4
            clear hr3 hch3 HR4 hown4 g0 g1 g2 g3
            unfold cntV
            go_wp2_with (at_builtin; refine wpList_appV 22 3 (.int .i64 0) 8 Tryd.underlying22 infoInt rfl (by decide) rfl _ _ rfl (w3.alloc (.cells #[.int .i64 yn, .int .i64 yp] 94)) (q8 + 1) _ k (os.map (Value.int .i64)) (.int .i64 yn) rfl HO4.out hs4 (by omega) (w3.heap.size + 1) (by simp) rfl rfl ?_; intro v' w6 hown6 hap; obtain ⟨⟨e1, ef, es⟩, hrel6⟩ := HRR.out v' w6 (by simpa using hown6) hap; obtain ⟨a', c', rfl, _, _⟩ := own_shape hown6; clear hown6 hap)
            go_roundw
            case rel => exact hrel6
            case measure => simp [intOf]; omega
        · have hkO : O = k := by omega
          subst hkO
          rename World => wz
          rw [Nat.sub_self, contO] at hfr
          obtain ⟨av, cv, rfl, hcv1, hcv⟩ := own_shape hown
          unfold maxLen at hcv
          have HHN := Lib.hid hhn
          obtain ⟨g0, g1, g2, g3, g4⟩ := hhn
          have HS6 : Hid (RdM wz p g e rest ∧ CB wz q8 I (.slice none 0 0) (.slice av O cv) ∧ wz.ownsRow (q8 + 1) 3 1 (.slice av O cv) O (os.map (Value.int .i64)) ∧ Chg [p] W0 wz ∧ WOk rest ∧ contG e I G 0 rest [] os = F ∧ ∀ k, (Value.slice av O cv).ownBlock = some k → k < wz.heap.size) := ⟨hrd, hcb, hown, hch, hokr, hfr, fun k hk => (hown.lt k hk).2⟩
          clear hrd hcb hown hol hch hokr hfr hk hlt HNU
          go_wp2_with fail
          clear g0 g1 g2 g3
          generalize hB3 : wz.heap.size = B3 at *
          go_loopw [74] (fun i wr => ∃ (k : Nat) (u : Value) (ps : List (Int × Int)) (rest : List Wd), k ≤ G ∧ i = .int .i64 k ∧ Hid (RdM wr p g e rest ∧ HN wr q4 M I O G ∧ CB wr q8 I u (.slice av O cv) ∧ wr.ownsRow B3 48 2 u k (ps.flatMap pcells) ∧ ps.length = k ∧ wr.ownsRow (q8 + 1) 3 1 (.slice av O cv) O (os.map (Value.int .i64)) ∧ Chg [p] W0 wr ∧ WOk rest ∧ B3 ≤ wr.heap.size ∧ contG e I (G - k) k rest ps os = F)) (fun i _ => G - (intOf i).toNat)
          case atStart => exact ⟨0, _, [], rest, Nat.zero_le _, rfl, HS6.out.1, HHN.out, HS6.out.2.1, World.ownsRow_nil _ _ _ _, rfl, HS6.out.2.2.1, HS6.out.2.2.2.1, HS6.out.2.2.2.2.1, by rw [hB3]; exact Nat.le_refl _, by rw [Nat.sub_zero]; exact HS6.out.2.2.2.2.2.1⟩
          case round =>
            obtain ⟨k, u, ps, rest', hk, rfl, HH⟩ := hrel
            have HVB : Hid (∀ k, (Value.slice av O cv).ownBlock = some k → k < B3) := HS6.out.2.2.2.2.2.2
            have HB38 : Hid (q8 + 1 ≤ B3) := by unfold Hid; omega
            clear HS6 HHN
            obtain ⟨hrd, hhn, hcb, hown, hol, hov, hch, hokr, hsw, hfr⟩ := HH.out
            clear HH
            by_cases hlt : k < G
            · have hcw := Chg.old HB0.out hch
              have HJ := Lib.hid (HGU.out ((I : Int) + (k : Int) + 1) rest' wr hrd hcw hokr (by omega) (by omega))
              have HB := Lib.hid (HBAD.out wr hch)
              obtain ⟨r, hr5⟩ : ∃ r, G - k = r + 1 := ⟨G - k - 1, by omega⟩
              rw [hr5, contG] at hfr
              have HCB := Lib.hid hcb
              obtain ⟨d0, d1, d2, d3, d4⟩ := hcb
              cases hnx : gateR ((I : Int) + (k : Int) + 1) e rest' with
              | bad q =>
                rw [hnx] at HJ hfr
                simp only at hfr
                have HF := Lib.hid hfr.symm
                clear hfr hnx hr5 hrd hown hol hov hch hokr hcw hhn HBAD HJU HGU HBU HCB
                go_wp2_with fail
                refine HJ.out.mono ?_
                rintro e3 w3 ⟨ev, rfl, hat, hch3⟩
                obtain ⟨hcb, _, hpost⟩ := HB.out w3 ev q HF.out hat hch3
                have HCB := Lib.hid hcb
                have HPO := Lib.hid hpost
                obtain ⟨c0, c1, c2, cf, cs⟩ := hcb
                obtain ⟨b, hB, rfl, k0, k1⟩ := hat
                clear k0 k1 hch3 hpost d0 d1 d2 d3
                unfold cntV
                go_wp2_with fail
                exact bodyPost_ret (v := .tuple #[circV 0 (.slice none 0 0) (.slice none 0 0), .iface 73 (.pointer (some ⟨b, 0, none⟩))]) (res3 ((HCB.out.set3 0 (.slice none 0 0) (.slice none 0 0)).chg (S := []) (Chg.of_below ((Below.refl _ _).alloc (Nat.le_refl _) _)) (by simp)) rfl rfl) rfl (HPO.out _)
              | got y rest2 =>
                rw [hnx] at HJ hfr
                simp only at hfr
                have hokr' := gateR_rest hnx hokr
                obtain ⟨yn, yp⟩ := y
                obtain ⟨ao, co, rfl, hco1, hco⟩ := row_shape hown
                unfold maxLen at hco
                have HA : Hid (∀ w3, RdM w3 p g e rest2 → Chg [p] wr w3 → w3.cell? ⟨q8, 1, none⟩ = some (.slice ao k co) ∧ q8 < w3.heap.size ∧ (w3.alloc (.cells #[.int .i64 yn, .int .i64 yp] 48)).ownsRow B3 48 2 (.slice ao k co) k (ps.flatMap pcells) ∧ B3 ≤ (w3.alloc (.cells #[.int .i64 yn, .int .i64 yp] 48)).heap.size ∧
                    ∀ v' w6, w6.ownsRow B3 48 2 v' (k + 1) (ps.flatMap pcells ++ pcells (yn, yp)) → App B3 (w3.alloc (.cells #[.int .i64 yn, .int .i64 yp] 48)) w6 (.slice ao k co) v' → (w6.cell? ⟨q8, 1, none⟩ = some (.slice ao k co) ∧ (∀ o, w6.frozen? ⟨q8, o, none⟩ = false) ∧ q8 < w6.heap.size) ∧
                      ∃ (k' : Nat) (u'' : Value) (ps' : List (Int × Int)) (rest'' : List Wd), k' ≤ G ∧ Value.int .i64 ((k : Int) + 1) = .int .i64 k' ∧ Hid (RdM (w6.setCell ⟨q8, 1, none⟩ v') p g e rest'' ∧ HN (w6.setCell ⟨q8, 1, none⟩ v') q4 M I O G ∧ CB (w6.setCell ⟨q8, 1, none⟩ v') q8 I u'' (.slice av O cv) ∧ (w6.setCell ⟨q8, 1, none⟩ v').ownsRow B3 48 2 u'' k' (ps'.flatMap pcells) ∧ ps'.length = k' ∧ (w6.setCell ⟨q8, 1, none⟩ v').ownsRow (q8 + 1) 3 1 (.slice av O cv) O (os.map (Value.int .i64)) ∧ Chg [p] W0 (w6.setCell ⟨q8, 1, none⟩ v') ∧ WOk rest'' ∧ B3 ≤ (w6.setCell ⟨q8, 1, none⟩ v').heap.size ∧ contG e I (G - k') k' rest'' ps' os = F)) := fun w3 hr3 h3 => by
                  obtain ⟨z1, z2, z3, z4⟩ := HQ8.out
                  have hz := HZ0.out
                  have h38 := HB38.out
                  have hqp : q8 ∉ [p] := by simp; omega
                  have hal := (Below.refl _ w3).alloc (Nat.le_refl _) (.cells #[.int .i64 yn, .int .i64 yp] 48)
                  have hcb3 := HCB.out.chg h3 hqp
                  have hcb4 := hcb3.chg (S := []) (Chg.of_below hal) (by simp)
                  have hs3 := h3.size
                  have ho3 := own_chg hown h3 (fun j hj => by have := (hown.lt j hj).1; simp; omega)
                  have hv3 := own_chg hov h3 (fun j hj => by have := (hov.lt j hj).1; simp; omega)
                  refine ⟨hcb3.2.1, hcb3.2.2.2.2, own_keep ho3 hal, by simp; omega, fun v' w6 hown6 hap => ?_⟩
                  have hcb6 := hcb4.low hap.below (by omega)
                  refine ⟨⟨hcb6.2.1, hcb6.2.2.2.1, hcb6.2.2.2.2⟩, k + 1, v', ps ++ [(yn, yp)], rest2, by omega, by simp, ?_, ?_, hcb6.set1 v', ?_, by simp [hol], ?_, ?_, hokr', ?_, ?_⟩
                  · exact (((hr3.chg hal).low hap.below (by omega) (by omega)).set (by omega) (by omega))
                  · exact ((((hhn.chg h3 (by have := HQ1.out.2.2.2.1; simpa using this)).chg (S := []) (Chg.of_below hal) (by simp)).low hap.below (by omega)).chg (S := [q8]) ((Chg.refl _ _).setCell (.inl (by simp)) _) (by simp; omega))
                  · exact ownsRow_setCell_below (by simpa using hown6) (a := ⟨q8, 1, none⟩) (by show q8 < B3; omega) _
                  · exact ownsRow_setCell_below (own_low (own_keep hv3 hal) hap.below HVB.out) (a := ⟨q8, 1, none⟩) (Nat.lt_succ_self _) _
                  · exact ((((hch.more h3).alloc _).low hap.below (by omega)).setCell (.inr (by show W0.heap.size ≤ q8; omega)) _)
                  · have := hap.below.size; simp at this ⊢; omega
                  · rw [show G - (k + 1) = r by omega]; exact hfr
                clear hfr hnx hr5 hrd hown hol hov hch hokr hokr' hcw hhn HBAD HJU HGU HBU HB HCB
                go_wp2_with fail
                refine HJ.out.mono ?_
                rintro e3 w3 ⟨rfl, hr3, hch3⟩
                obtain ⟨x2, xs2, hown4, hs4, HR4⟩ := HA.out w3 hr3 hch3
                have HRR := Lib.hid HR4
                have HO4 := Lib.hid hown4
                clear hr3 hch3 HR4 hown4 d0 d1 d2 d3
                unfold cntV
                go_wp2_with (at_builtin; refine wpList_appS 25 48 _ 2 16 Tryd.underlying25 infoA rfl (by decide) (by decide) rfl _ _ rfl (w3.alloc (.cells #[.int .i64 yn, .int .i64 yp] 48)) B3 _ k (ps.flatMap pcells) (pcells (yn, yp)) (pcells_one _) rfl HO4.out hs4 (by omega) (w3.heap.size + 1) (by simp) rfl rfl ?_; intro v' w6 hown6 hap; obtain ⟨⟨e1, ef, es⟩, hrel6⟩ := HRR.out v' w6 hown6 hap; obtain ⟨a', c', rfl, _, _⟩ := row_shape hown6; clear hown6 hap)
                go_roundw
                case rel => exact hrel6
                case measure => simp [intOf]; omega
            · have hkG : G = k := by omega
              subst hkG
              rw [Nat.sub_self, contG] at hfr
              have hcw := Chg.old HB0.out hch
              have HJ := Lib.hid (HBU.out rest' wr hrd hcw hokr)
              have HB := Lib.hid (HBAD.out wr hch)
              unfold contT at hfr
              cases hnx : tailR rest' with
              | some q =>
                rw [hnx] at HJ hfr
                simp only at hfr
                have HF := Lib.hid hfr.symm
                clear hfr hnx hrd hown hol hov hch hokr hcw hhn HBAD HJU HGU HBU hcb
                go_wp2_with fail
                refine HJ.out.mono ?_
                rintro e3 w3 ⟨ev, rfl, hat, hch3⟩
                obtain ⟨hcb, hpost, _⟩ := HB.out w3 ev q HF.out hat hch3
                have HCB := Lib.hid hcb
                have HPO := Lib.hid hpost
                obtain ⟨c0, c1, c2, cf, cs⟩ := hcb
                obtain ⟨b, hB, rfl, k0, k1⟩ := hat
                clear k0 k1 hch3 hpost
                go_wp2_with fail
                exact bodyPost_ret (v := .tuple #[circV 0 (.slice none 0 0) (.slice none 0 0), .iface 73 (.pointer (some ⟨b, 0, none⟩))]) (res3 (HCB.out.set3 0 (.slice none 0 0) (.slice none 0 0)) rfl rfl) rfl HPO.out
              | none =>
                rw [hnx] at HJ hfr
                simp only at hfr
                have HF := Lib.hid hfr.symm
                have HA : Hid (∀ w3, Chg [p] wr w3 → CB w3 q8 I u (.slice av O cv) ∧ CB w3 w.heap.size 0 (.slice none 0 0) (.slice none 0 0) ∧ CircP A w p F (.returned (.tuple #[circV I u (.slice av O cv), .nilIface])) (set3 w3 w.heap.size (.int .i64 I) u (.slice av O cv))) := fun w3 h3 => by
                  obtain ⟨z1, z2, z3, z4⟩ := HQ8.out
                  have h38 := HB38.out
                  have hz := HZ0.out
                  have hp := HQ1.out.2.1
                  have ho3 := own_chg hown h3 (fun j hj => by have := (hown.lt j hj).1; simp; omega)
                  have hv3 := own_chg hov h3 (fun j hj => by have := (hov.lt j hj).1; simp; omega)
                  refine ⟨hcb.chg h3 (by simp; omega), (HC0.out.chg hch (by simpa using hp)).chg h3 (by simpa using hp), ?_⟩
                  rw [HF.out]
                  refine ⟨u, .slice av O cv, .nilIface, rfl, ?_, ?_, rfl, set3_chg (hcw.more h3) (.inr (Nat.le_refl _))⟩
                  · have := set3_own (x := .int .i64 I) (y := u) (z := .slice av O cv) ho3 (q := w.heap.size) (by omega)
                    rw [show ps.length = G from hol]
                    exact own_base this (by omega)
                  · have := set3_own (x := .int .i64 I) (y := u) (z := .slice av O cv) hv3 (q := w.heap.size) (by omega)
                    have hol : os.length = O := by simpa using hov.1
                    rw [hol]
                    exact own_base this (by omega)
                obtain ⟨ao, co, rfl, hco1, hco⟩ := row_shape hown
                clear hfr hnx hrd hown hol hov hch hokr hcw hhn HBAD HJU HGU HBU hcb HB
                go_wp2_with fail
                refine HJ.out.mono ?_
                rintro e3 w3 ⟨rfl, hch3⟩
                obtain ⟨hcb, hcr, hpost⟩ := HA.out w3 hch3
                have HCR := Lib.hid hcr
                have HPO := Lib.hid hpost
                obtain ⟨d0, d1, d2, df, ds⟩ := hcb
                obtain ⟨c0, c1, c2, cf, cs⟩ := hcr
                clear hch3 hpost
                go_wp2_with fail
                exact bodyPost_ret (v := .tuple #[circV I (.slice ao G co) (.slice av O cv), .nilIface]) (res3 (HCR.out.set3 I (.slice ao G co) (.slice av O cv)) rfl rfl) rfl HPO.out
end Go.Proofs.YtfkodpglgeghlaaDoor

namespace Go.Proofs.YtfkodpglgeghlaaDoor

theorem mem_word {p : Int → Bool} {l : List Int} {x : Int} (h : x ∈ l.takeWhile p) : x ∈ l := (List.takeWhile_sublist p).subset h
theorem mem_wordD {p : Int → Bool} {l : List Int} {x : Int} (h : x ∈ l.dropWhile p) : x ∈ l := (List.dropWhile_sublist p).subset h
/-- Each word of a text is some of its bytes; there are no more words than bytes. -/
theorem splitL_ok (cm : Bool) : ∀ (n : Nat) (l : List Int), l.length ≤ n → l.length ≤ 4000000 → Bts l → ∀ (k : Nat) (f s : Bool), WOk (splitL cm k f s l) ∧ (splitL cm k f s l).length ≤ l.length
  | n, [], _, _, _, k, f, s => by rw [splitL_nil]; exact ⟨fun _ h => (by cases h), Nat.le_refl _⟩
  | 0, x :: l, hn, _, _, _, _, _ => by simp at hn
  | n + 1, x :: l, hn, hm, hb, k, f, s => by
    have hl : l.length ≤ n := by simpa using hn
    have hm' : l.length ≤ 4000000 := by simp at hm; omega
    have hb' : Bts l := fun y hy => hb y (by simp [hy])
    by_cases h10 : x = 10
    · subst h10
      rw [splitL_nl]
      have := splitL_ok cm n l hl hm' hb' (k + 1) true false
      exact ⟨this.1, by have := this.2; simp; omega⟩
    · cases hbk : blankB x with
      | true =>
        rw [splitL_blank cm k f s x l hbk]
        have := splitL_ok cm n l hl hm' hb' (k + 1) f s
        exact ⟨this.1, by have := this.2; simp; omega⟩
      | false =>
        have hgap : gapB x = false := by rw [gap_parts, hbk]; simp [nlB, h10]
        rw [splitL_word cm k f s x l hgap]
        have hd := dropWhile_len inW l
        have hd2 : (l.dropWhile inW).length ≤ n := by omega
        have ih := fun (kk : Nat) (f s : Bool) => splitL_ok cm n (l.dropWhile inW) hd2 (by omega) (fun y hy => hb' y (mem_wordD hy)) kk f s
        have ht : (l.takeWhile inW).length ≤ l.length := (List.takeWhile_sublist inW).length_le
        split
        · rw [List.nil_append]
          exact ⟨(ih _ _ _).1, by have := (ih (k + (1 + (l.takeWhile inW).length)) false (s || (cm && (f && x == 99)))).2; simp; omega⟩
        · refine ⟨fun y hy => ?_, by have := (ih (k + (1 + (l.takeWhile inW).length)) false (s || (cm && (f && x == 99)))).2; simp; omega⟩
          rw [List.mem_append] at hy
          rcases hy with hy | hy
          · have e : y = (x :: l.takeWhile inW, k, f) := by simpa using hy
            subst e
            refine ⟨by simp, fun z hz => ?_, by simp; simp at hm; omega⟩
            have hz' : z = x ∨ z ∈ l.takeWhile inW := by simpa using hz
            rcases hz' with rfl | hz'
            · exact hb z (by simp)
            · exact hb' z (mem_word hz')
          · exact (ih _ _ _).1 y hy
end Go.Proofs.YtfkodpglgeghlaaDoor

namespace Go.Proofs.YtfkodpglgeghlaaDoor
open Go.RowKit

theorem headR_got {e : Int} {ws ws1 : List Wd} {hs : List (Int × Int)} (h : headR e ws = .got hs ws1) (hok : WOk ws) : hs.length = 5 ∧ (∀ j, 0 ≤ hn hs j ∧ hn hs j < 1000000000) ∧ WOk ws1 := by
  unfold headR at h
  cases ws with
  | nil => rw [nextR_nil] at h; cases h
  | cons x ws =>
    by_cases hx : x.2.2 = true
    · rw [nextR_ok hx] at h
      simp only at h
      split at h
      · obtain ⟨h1, h2⟩ := fiveR_bound 5 ws [] hs ws1 (fun j => by simp [hn]) hok.tail h
        exact ⟨by have := fiveR_len 5 ws [] hs ws1 h; simpa using this, h1, h2⟩
      · cases h
    · rw [nextR_bad hx] at h; cases h
theorem checkR_none {hs : List (Int × Int)} (h : checkR hs = none) : hn hs 1 ≤ 8000 ∧ hn hs 1 + hn hs 4 ≤ 8000 ∧ hn hs 3 ≤ 8000 ∧ hn hs 0 = hn hs 1 + hn hs 4 ∧ hn hs 2 = 0 := by
  unfold checkR at h
  split at h
  · cases h
  · split at h
    · cases h
    · split at h
      · cases h
      · split at h
        · cases h
        · split at h
          · cases h
          · omega
theorem circ_any {A : Nat → Addr} {p g : Nat} {e : Int} {ws : List Wd} {w : World} (h : RdM w p g e ws) (hS : SentsP A p w) (hok : WOk ws) :
    Calls Tryd.prog 40 #[.pointer (some ⟨p, 0, none⟩)] w (CircP A w p (readR e ws)) := by
  cases hh : headR e ws with
  | bad k => rw [show readR e ws = badC (false, k) by unfold readR; rw [hh]]; exact circ_head h hS hok (false, k) (.inl ⟨hh, rfl⟩)
  | got hs ws1 =>
    obtain ⟨_, hb, hok1⟩ := headR_got hh hok
    cases hck : checkR hs with
    | some f => rw [show readR e ws = badC f by unfold readR; rw [hh]; simp only [hck]]; exact circ_head h hS hok f (.inr ⟨hs, ws1, hh, hck⟩)
    | none =>
      rw [show readR e ws = contI e (hn hs 1).toNat (hn hs 0).toNat (hn hs 3).toNat (hn hs 4).toNat (hn hs 1).toNat 0 ws1 by unfold readR; rw [hh]; simp only [hck]]
      obtain ⟨c1, c2, c3, c4, c5⟩ := checkR_none hck
      have b0 := hb 0
      have b1 := hb 1
      have b3 := hb 3
      have b4 := hb 4
      exact circ_main h hS hok hs ws1 hh hck hok1 _ _ _ _ (by omega) (by omega) (by omega) (by omega) (by omega) (by omega) (by omega) (by omega)

/-- A fault's number, whether it has a place, the place. -/
def fcode : Option (Bool × Int) → Int
  | none => 0
  | some f => if f.1 = true then 102 else 101
def fpos : Option (Bool × Int) → Int
  | none => 0
  | some f => f.2
theorem OutF.err {A : Nat → Addr} {B : Nat} {w : World} {ev : Value} {f : Option (Bool × Int)} (h : OutF A B w ev f) (hS : Sents w A) : ErrAs w ev (fcode f) f.isSome (fpos f) := by
  cases f with
  | none => obtain rfl : ev = .nilIface := h; exact errAs_nil _
  | some f =>
    obtain ⟨l, k⟩ := f
    cases l with
    | true => exact AtB.err (i := 1) h hS (by omega)
    | false => exact AtB.err (i := 0) h hS (by omega)
theorem OutF.keep {A : Nat → Addr} {B : Nat} {w w' : World} {ev : Value} {f : Option (Bool × Int)} (h : OutF A B w ev f) (hb : Below w.heap.size w w') : OutF A B w' ev f := by
  cases f with
  | none => exact h
  | some f => exact AtB.keep h hb
theorem OutF.set3 {A : Nat → Addr} {B q : Nat} {W : World} {ev : Value} {f : Option (Bool × Int)} {x y z : Value} (h : OutF A B W ev f) (hq : q < B) : OutF A B (set3 W q x y z) ev f := by
  cases f with
  | none => exact h
  | some f => exact set3_at h hq
theorem OutF.mono {A : Nat → Addr} {B B' : Nat} {w : World} {ev : Value} {f : Option (Bool × Int)} (h : OutF A B w ev f) (hB : B' ≤ B) : OutF A B' w ev f := by
  cases f with
  | none => exact h
  | some f => exact AtB.mono h hB

def ReadP (A : Nat → Addr) (w : World) (R : Res) (r : Ending) (w' : World) : Prop :=
  (∃ u v ev, r = .returned (.tuple #[circV R.1.1 u v, ev]) ∧ PRow w' u R.1.2.1 ∧ Row w' v R.1.2.2 ∧ OutF A w.heap.size w' ev R.2) ∧ Below w.heap.size w w'

theorem wordsF_ok {xs : List Int} (hb : Bts xs) (hn : xs.length ≤ 4000) : WOk (wordsL false xs) ∧ (wordsL false xs).length ≤ 4000 := by
  have := splitL_ok false xs.length xs (Nat.le_refl _) (by omega) hb 0 true false
  exact ⟨this.1, by have := this.2; unfold wordsL; omega⟩
theorem res3r {W : World} {q : Nat} {n : Int} {u v ev : Value} {tmps : Array Value} (h : CB W q n u v) (h2 : tmps.getD 2 undef = .pointer (some ⟨q, 0, none⟩)) (h3 : tmps.getD 3 undef = ev) : (results Tryd.f21 tmps).run Tryd.prog W = .ok (.tuple #[circV n u v, ev]) W := by
  obtain ⟨c0, c1, c2, _, _⟩ := h
  rw [Array.getD_eq_getD_getElem?] at h2 h3
  simp [results, Tryd.results21, go_sem, circV, h2, h3, c0, c1, c2]
/-- The reader that Read makes. -/
theorem rdm_start {w : World} {u : Value} {ws : List Wd} (e : Int) (T : TypeId) (h : WRow w u ws) (hz : 0 < w.heap.size) : ∃ g, RdM (w.alloc (.cells #[u, .int .i64 e] T)) w.heap.size g e ws := by
  obtain ⟨a, c, rfl, h1, h2, h3⟩ := h
  unfold maxLen at h2
  have hb := (Below.refl _ w).alloc (Nat.le_refl _) (.cells #[.slice a ws.length c, .int .i64 e] T)
  have c0 : (w.alloc (.cells #[.slice a ws.length c, .int .i64 e] T)).cell? ⟨w.heap.size, 0, none⟩ = some (.slice a ws.length c) := by rw [World.cell?_alloc_at _ _ _ _ (by simp)]; rfl
  have c1 : (w.alloc (.cells #[.slice a ws.length c, .int .i64 e] T)).cell? ⟨w.heap.size, 1, none⟩ = some (.int .i64 e) := by rw [World.cell?_alloc_at _ _ _ _ (by simp)]; rfl
  have cf : ∀ o, (w.alloc (.cells #[.slice a ws.length c, .int .i64 e] T)).frozen? ⟨w.heap.size, o, none⟩ = false := fun o => World.frozen?_alloc_at _ _ _ _ (by simp)
  rcases h3 with h3 | ⟨g, rfl, hw⟩
  · exact ⟨0, ⟨a, c, c0, h1, by omega, .inl h3⟩, c1, cf, by simp, by simp, by omega⟩
  · have hg := hw.sq
    have hw2 := hw.keep hb
    exact ⟨g, ⟨_, c, c0, h1, by omega, .inr ⟨0, rfl, hw2.sq, fun i hi => by rw [Nat.zero_add]; exact hw2.text i hi, fun i hi => by rw [Nat.zero_add]; exact hw2.pos i hi, fun i hi => by rw [Nat.zero_add]; exact hw2.fst i hi⟩⟩, c1, cf, by simp, by simp; omega, by omega⟩

set_option maxHeartbeats 4000000 in
theorem readA_any (A : Nat → Addr) (v : Value) (xs : List Int) (w : World) (hS : Sents w A) (hv : RowG (Value.int .u8) 0 w v xs) (hb : Bts xs) (hn : xs.length ≤ 4000) :
    Calls Tryd.prog 21 #[v] w (ReadP A w (readR xs.length (wordsL false xs))) := by
  obtain ⟨hok, hwn⟩ := wordsF_ok hb hn
  have HBA := Lib.hid ((Below.refl w.heap.size w).alloc (Nat.le_refl _) circ0)
  have HC0 := Lib.hid (CB.start w 0 (.slice none 0 0) (.slice none 0 0) 27)
  have HSP := Lib.hid (split_row v xs false _ (hv.keep HBA.out) hb (by omega))
  have HS := Lib.hid (fun W (hW : Below w.heap.size w W) => hS.keep hW)
  have hz0 : 0 < w.heap.size := by have := World.block_lt_of_cell? w _ hS.c0; omega
  obtain ⟨a, cap, rfl, hcl, hcm, _⟩ := hv
  unfold maxLen at hcm
  have HOK := Lib.hid hok
  clear hS hb hok hwn
  generalize wordsL false xs = ws at *
  generalize xs.length = n at *
  have hnl : decide ((1048576 : Int) < n) = false := by simp; omega
  unfold circ0 at *
  go_enter Tryd.func21, Tryd.ntmps21
  go_wp2_with fail
  refine HSP.out.mono ?_
  rintro e1 w1 ⟨⟨u, rfl, hr⟩, hb1⟩
  have hs1 := hb1.size
  simp at hs1
  obtain ⟨g, hrd⟩ := rdm_start (n : Int) 69 hr (by omega)
  have hbw := HBA.out.trans (hb1.mono (by simp))
  have hbw2 := hbw.alloc (by omega) (.cells #[u, .int .i64 (n : Int)] 69)
  have HCI := Lib.hid (circ_any hrd (SentsP.of (HS.out w1 hbw) ((Below.refl _ _).alloc (Nat.le_refl _) _) (Nat.le_refl _)) HOK.out)
  have HQ := Lib.hid ((HC0.out.chg (S := []) (Chg.of_below hb1) (by simp)).chg (S := []) (Chg.of_below ((Below.refl _ w1).alloc (Nat.le_refl _) (.cells #[u, .int .i64 (n : Int)] 69))) (by simp))
  have HBW := Lib.hid hbw2
  clear hrd hbw hbw2 hb1
  obtain ⟨au, cu, rfl, _, _, _⟩ := hr
  have HSZ : Hid ((w1.alloc (.cells #[.slice au ws.length cu, .int .i64 (n : Int)] 69)).heap.size = w1.heap.size + 1) := by unfold Hid; simp
  generalize readR (n : Int) ws = R at *
  go_wp2_with fail
  refine HCI.out.mono ?_
  rintro e3 w3 ⟨u3, v3, ev, rfl, hu3, hv3, hO, hch⟩
  have hs3 := hch.size
  rw [HSZ.out] at hs3
  rw [HSZ.out] at hu3 hv3 hO
  have hq3 := HQ.out.chg hch (by simp; omega)
  obtain ⟨a3, k3, rfl, _, _⟩ := row_shape hu3
  obtain ⟨a4, k4, rfl, _, _⟩ := own_shape hv3
  have HQ3 := Lib.hid hq3
  have HP : Hid (ReadP A w R (.returned (.tuple #[circV R.1.1 (.slice a3 R.1.2.1.length k3) (.slice a4 R.1.2.2.length k4), ev])) (set3 w3 w.heap.size (.int .i64 R.1.1) (.slice a3 R.1.2.1.length k3) (.slice a4 R.1.2.2.length k4))) := by
    have hb3 : Below w.heap.size w w3 := hch.below HBW.out (by rw [HSZ.out]; omega) (by intro i hi; simp at hi; omega)
    refine ⟨⟨_, _, ev, rfl, own_prow (set3_own hu3 (by omega)), own_row (set3_own hv3 (by omega)), (hO.set3 (by omega)).mono (by omega)⟩, ?_⟩
    exact ((hb3.setCell (Nat.le_refl _) _).setCell (Nat.le_refl _) _).setCell (Nat.le_refl _) _
  obtain ⟨c0, c1, c2, cf, cs⟩ := hq3
  clear hu3 hv3 hO hch
  unfold circV
  go_wp2_with fail
  exact bodyPost_ret (v := .tuple #[circV R.1.1 (.slice a3 R.1.2.1.length k3) (.slice a4 R.1.2.2.length k4), ev]) (res3r (HQ3.out.set3 R.1.1 (.slice a3 R.1.2.1.length k3) (.slice a4 R.1.2.2.length k4)) rfl rfl) rfl HP.out
end Go.Proofs.YtfkodpglgeghlaaDoor
