/- The contract of qdimacs.Read: a text's formula, or what is amiss first. Conditions: the slice reads as bytes, few of them; the errors lie as 'Sents8' says. -/
import Derived.Test.YtfoohdknjacenaaDoorBlkR
import Derived.Test.YtfoohdknjacenaaDoorCls
import Derived.Test.YtfoohdknjacenaaDoorPlaces
import Derived.Laws.ResultCell
namespace Go.Proofs.YtfoohdknjacenaaDoor
open Go.RowKit

def RFPost (A : Nat → Addr) (w : World) (e : Int) (R : Int × List Blk × List (List Int) × List Wd × Flt) (r : Ending) (w' : World) : Prop :=
  (∃ bv cv ov, r = .returned (.tuple #[.agg #[bv, .int .i64 R.1, cv], ov]) ∧ BRow w' w.heap.size bv R.2.1 ∧ CRow w' w.heap.size cv R.2.2.1 ∧ OutV A w.heap.size w' R.2.2.2.1 e ov R.2.2.2.2) ∧ Below w.heap.size w w'
theorem cnt_pos2 {ws : List Wd} {k : Nat} {n : Int} (h : cntL ws k = some n) : 0 ≤ n := by
  unfold cntL at h
  split at h
  · rename_i h'
    exact numL_pos h'.2.2 h
  · cases h
theorem head_bd2 {ws : List Wd} (h : (headL ws).2.2.isOk = true) : 0 ≤ (headL ws).1 ∧ (headL ws).1 ≤ 4000 := by
  unfold headL at *
  split at h
  · cases h
  · split at h
    · cases h
    · split at h
      · cases h
      · split at h
        · cases h
        · split at h
          · cases h
          · split at h
            · cases h
            · rename_i a b _ x hx hx2 _ y hy hy2
              simp only [a, b, hx2, hy2, if_false]
              have := cnt_pos2 hx
              omega

set_option maxHeartbeats 4000000 in
theorem readF_any (A : Nat → Addr) (v : Value) (xs : List Int) (w : World) (hS : Sents8 w A) (hv : RowG (Value.int .u8) 0 w v xs) (hb : Bts xs) (hn : xs.length ≤ 4000) :
    Calls Tryd.prog 6 #[v] w (RFPost A w xs.length (readFL xs)) := by
  obtain ⟨hok, hwn⟩ := words_ok hb hn
  have HSP := Lib.hid (fun W (hW : Below w.heap.size w W) => split_row v xs true W (hv.keep hW) hb (by omega))
  have HH := Lib.hid (fun u W (hW : Below w.heap.size w W) (h : WRow W u (wordsL true xs)) => headOf_any A u (wordsL true xs) xs.length W (hS.keep hW) h hok hwn)
  have HRB := Lib.hid (fun u W vn (hW : Below w.heap.size w W) (h : WRowO W u ((wordsL true xs).drop 4)) (hvn : vn ≤ 4000) => readBlocks_any A u ((wordsL true xs).drop 4) xs.length vn W (hS.keep hW) h (hok.drop 4) (by rw [List.length_drop]; omega) hvn)
  have HC := Lib.hid (fun u W j vars many (hW : Below w.heap.size w W) (h : WRowO W u (((wordsL true xs).drop 4).drop j)) => clausesOf_any A u (((wordsL true xs).drop 4).drop j) xs.length vars many W (hS.keep hW) h ((hok.drop 4).drop j) (by rw [List.length_drop, List.length_drop]; omega))
  unfold RBPost at HRB
  obtain ⟨a, cap, rfl, hcl, hcm, _⟩ := hv
  unfold maxLen at hcm
  clear hS hb hok
  have hbw : ∀ o, Below w.heap.size w (w.alloc o) := fun o => (Below.refl _ w).alloc (Nat.le_refl _) _
  have HB := Lib.hid hbw; clear hbw
  have H4 := Lib.hid (fun h => head_four (ws := wordsL true xs) h)
  have HBD := Lib.hid (fun h => head_bd2 (ws := wordsL true xs) h)
  unfold readFL
  generalize wordsL true xs = ws at *
  generalize hlen : xs.length = n at *
  cases hk : (headL ws).2.2.isOk with
  | false =>
    rw [if_neg (by simp)]
    have hk' : (headL ws).2.2 ≠ .ok := fun h => by rw [h] at hk; cases hk
    have HK := Lib.hid hk'
    clear hk hk' HC HRB H4 HBD
    generalize (headL ws).2.2 = f at *
    generalize (headL ws).2.1 = n2 at *
    generalize (headL ws).1 = n1 at *
    go_enter Tryd.func6, Tryd.ntmps6
    go_wp2_with (first
      | (go_at_call 14; refine (HSP.out _ (HB.out _)).mono ?_; rintro e w1 ⟨⟨u, rfl, hr⟩, hb1⟩; have hbw1 := (HB.out _).trans (hb1.mono (by simp)))
      | (go_at_call 15; refine (HH.out _ _ hbw1 hr).mono ?_; rintro e w2 ⟨⟨ov, kk, rfl, hO, _⟩, hb2⟩; have hbw2 := hbw1.trans (hb2.mono hbw1.size); have hba2 := hb1.trans (hb2.mono hb1.size); obtain ⟨hc, hf⟩ := bcell hba2; obtain ⟨t, u, rfl⟩ := hO.iface HK.out))
    have hs1 := hb1.size
    simp at hs1
    exact bodyPost_ret (v := .tuple #[.agg #[.slice none 0 0, .int .i64 0, .slice none 0 0], .iface t u]) (by simp [results, Tryd.results6, go_sem, hc]) rfl ⟨⟨_, _, _, rfl, BRow.nil _ _, CRow.nil _ _, (((hO.set _ _ _ (by omega)).set _ _ _ (by omega)).set _ _ _ (by omega)).mono (by omega)⟩, ((hbw2.setCell (Nat.le_refl _) _).setCell (Nat.le_refl _) _).setCell (Nat.le_refl _) _⟩
  | true =>
    rw [if_pos rfl]
    have h4 := H4.out hk
    obtain ⟨hd1, hd2⟩ := HBD.out hk
    have HOK := Lib.hid ((isOk_iff _).1 hk)
    clear H4 HBD
    have hcut : ∀ W u, WRow W u ws → ∃ g c, u = .slice (some ⟨g, 0, none⟩) ws.length c ∧ ws.length ≤ c ∧ c ≤ 9223372036854775807 ∧ ∀ W', Below W.heap.size W W' → ∀ c', ws.length - 4 ≤ c' → c' ≤ 9223372036854775807 → WRowO W' (.slice (some ⟨g, 12, none⟩) (ws.length - 4) c') (ws.drop 4) := fun W u h => by
      obtain ⟨g, c, e, h1, h2, h3⟩ := wrow_some h (by omega)
      refine ⟨g, c, e, h1, h2, fun W' hW c' h5 h6 => ⟨_, c', by rw [List.length_drop], by rw [List.length_drop]; exact h5, by unfold maxLen; omega, .inr ⟨g, 12, rfl, (h3.keep hW).cut 4⟩⟩⟩
    have HCUT := Lib.hid hcut; clear hcut
    have HCUT2 : Hid (∀ W a', ws.length ≤ 4 → WRowO W (.slice a' (ws.length - 4) 0) (ws.drop 4)) := fun W a' h => ⟨a', 0, by rw [List.length_drop], by rw [List.length_drop]; omega, by unfold maxLen; omega, .inl (by rw [List.length_drop]; omega)⟩
    generalize (headL ws).2.2 = f at *
    obtain rfl := HOK.out
    clear HOK hk
    generalize (headL ws).2.1 = n2 at *
    generalize (headL ws).1 = n1 at *
    obtain ⟨vn, rfl⟩ : ∃ vn : Nat, n1 = vn := ⟨n1.toNat, by omega⟩
    have HRBV := Lib.hid (fun u W hW h => HRB.out u W vn hW h (by omega))
    clear HRB
    cases hk : (blkS (vn : Int) 0 (ws.drop 4) [] [] none).2.2.isOk with
    | false =>
      rw [if_neg (by simp)]
      have hk' : (blkS (vn : Int) 0 (ws.drop 4) [] [] none).2.2 ≠ .ok := fun h => by rw [h] at hk; cases hk
      have HK := Lib.hid hk'
      clear hk hk' HC
      generalize blkS (vn : Int) 0 (ws.drop 4) [] [] none = R at *
      obtain ⟨bs, j, f⟩ := R
      dsimp only at HRBV HK ⊢
      generalize ws.length = m at *
      go_enter Tryd.func6, Tryd.ntmps6
      go_wp2_with (first
        | (go_at_call 14; refine (HSP.out _ (HB.out _)).mono ?_; rintro e w1 ⟨⟨u, rfl, hr⟩, hb1⟩; have hbw1 := (HB.out _).trans (hb1.mono (by simp)); obtain ⟨g, c, rfl, hmc, hc9, hr4⟩ := HCUT.out _ _ hr)
        | (go_at_call 15; refine (HH.out _ _ hbw1 hr).mono ?_; rintro e w2 ⟨⟨ov, kk, rfl, hO, hkk⟩, hb2⟩; have hbw2 := hbw1.trans (hb2.mono hbw1.size); obtain rfl : kk = 4 := (by first | exact hkk rfl | exact hkk trivial | exact hkk); obtain rfl : ov = .nilIface := hO)
        | (go_at_call 16; refine (HRBV.out _ _ hbw2 (by first | exact hr4 _ hb2 _ (by omega) (by omega) | exact HCUT2.out _ _ (by omega))).mono ?_; rintro e w3 ⟨⟨bv, rv, ov, rfl, hB3, hO3, _⟩, hb3⟩; have hbw3 := hbw2.trans (hb3.mono hbw2.size); have hs1 := hb1.size; have hs2 := hb2.size; simp at hs1; have hba3 := hb1.trans ((hb2.trans (hb3.mono hs2)).mono hb1.size); obtain ⟨hc, hf⟩ := bcell hba3; obtain ⟨t, u, rfl⟩ := hO3.iface HK.out))
      all_goals exact bodyPost_ret (v := .tuple #[.agg #[.slice none 0 0, .int .i64 0, .slice none 0 0], .iface t u]) (by simp [results, Tryd.results6, go_sem, hc]) rfl ⟨⟨_, _, _, rfl, BRow.nil _ _, CRow.nil _ _, (((hO3.set _ _ _ (by omega)).set _ _ _ (by omega)).set _ _ _ (by omega)).mono (by omega)⟩, ((hbw3.setCell (Nat.le_refl _) _).setCell (Nat.le_refl _) _).setCell (Nat.le_refl _) _⟩
    | true =>
      rw [if_pos rfl]
      have HOK := Lib.hid ((isOk_iff _).1 hk)
      clear hk
      generalize blkS (vn : Int) 0 (ws.drop 4) [] [] none = R at *
      obtain ⟨bs, j, f⟩ := R
      dsimp only at HRBV HOK ⊢
      obtain rfl := HOK.out
      clear HOK
      have HCJ := Lib.hid (fun u W hW h => HC.out u W j (vn : Int) n2 hW h)
      clear HC
      cases hk : (clausesL (vn : Int) n2 0 ((ws.drop 4).drop j) [] []).2.isOk with
      | false =>
        rw [if_neg (by simp)]
        have hk' : (clausesL (vn : Int) n2 0 ((ws.drop 4).drop j) [] []).2 ≠ .ok := fun h => by rw [h] at hk; cases hk
        have HK := Lib.hid hk'
        clear hk hk'
        generalize clausesL (vn : Int) n2 0 ((ws.drop 4).drop j) [] [] = R at *
        obtain ⟨out, f⟩ := R
        dsimp only at HCJ HK ⊢
        generalize ws.length = m at *
        go_enter Tryd.func6, Tryd.ntmps6
        go_wp2_with (first
          | (go_at_call 14; refine (HSP.out _ (HB.out _)).mono ?_; rintro e w1 ⟨⟨u, rfl, hr⟩, hb1⟩; have hbw1 := (HB.out _).trans (hb1.mono (by simp)); obtain ⟨g, c, rfl, hmc, hc9, hr4⟩ := HCUT.out _ _ hr)
          | (go_at_call 15; refine (HH.out _ _ hbw1 hr).mono ?_; rintro e w2 ⟨⟨ov, kk, rfl, hO, hkk⟩, hb2⟩; have hbw2 := hbw1.trans (hb2.mono hbw1.size); obtain rfl : kk = 4 := (by first | exact hkk rfl | exact hkk trivial | exact hkk); obtain rfl : ov = .nilIface := hO)
          | (go_at_call 16; refine (HRBV.out _ _ hbw2 (by first | exact hr4 _ hb2 _ (by omega) (by omega) | exact HCUT2.out _ _ (by omega))).mono ?_; rintro e w3 ⟨⟨bv, rv, ov, rfl, hB3, hO3, hrv⟩, hb3⟩; have hbw3 := hbw2.trans (hb3.mono hbw2.size); obtain rfl : ov = .nilIface := hO3; have hrv3 := (hrv rfl).keep hb3)
          | (go_at_call 17; refine (HCJ.out _ _ hbw3 hrv3).mono ?_; rintro e w4 ⟨⟨cv, ov, rfl, hC, hO4⟩, hb4⟩; have hbw4 := hbw3.trans (hb4.mono hbw3.size); have hs1 := hb1.size; have hs2 := hb2.size; have hs3 := hb3.size; simp at hs1; have hba4 := hb1.trans ((hb2.trans ((hb3.trans (hb4.mono hs3)).mono hs2)).mono hb1.size); obtain ⟨hc, hf⟩ := bcell hba4; obtain ⟨t, u, rfl⟩ := hO4.iface HK.out))
        all_goals exact bodyPost_ret (v := .tuple #[.agg #[.slice none 0 0, .int .i64 0, .slice none 0 0], .iface t u]) (by simp [results, Tryd.results6, go_sem, hc]) rfl ⟨⟨_, _, _, rfl, BRow.nil _ _, CRow.nil _ _, (((hO4.set _ _ _ (by omega)).set _ _ _ (by omega)).set _ _ _ (by omega)).mono (by omega)⟩, ((hbw4.setCell (Nat.le_refl _) _).setCell (Nat.le_refl _) _).setCell (Nat.le_refl _) _⟩
      | true =>
        rw [if_pos rfl]
        have HOK := Lib.hid ((isOk_iff _).1 hk)
        clear hk
        generalize clausesL (vn : Int) n2 0 ((ws.drop 4).drop j) [] [] = R at *
        obtain ⟨out, f⟩ := R
        dsimp only at HCJ HOK ⊢
        obtain rfl := HOK.out
        clear HOK
        generalize ws.length = m at *
        go_enter Tryd.func6, Tryd.ntmps6
        go_wp2_with (first
          | (go_at_call 14; refine (HSP.out _ (HB.out _)).mono ?_; rintro e w1 ⟨⟨u, rfl, hr⟩, hb1⟩; have hbw1 := (HB.out _).trans (hb1.mono (by simp)); obtain ⟨g, c, rfl, hmc, hc9, hr4⟩ := HCUT.out _ _ hr)
          | (go_at_call 15; refine (HH.out _ _ hbw1 hr).mono ?_; rintro e w2 ⟨⟨ov, kk, rfl, hO, hkk⟩, hb2⟩; have hbw2 := hbw1.trans (hb2.mono hbw1.size); obtain rfl : kk = 4 := (by first | exact hkk rfl | exact hkk trivial | exact hkk); obtain rfl : ov = .nilIface := hO)
          | (go_at_call 16; refine (HRBV.out _ _ hbw2 (by first | exact hr4 _ hb2 _ (by omega) (by omega) | exact HCUT2.out _ _ (by omega))).mono ?_; rintro e w3 ⟨⟨bv, rv, ov, rfl, hB3, hO3, hrv⟩, hb3⟩; have hbw3 := hbw2.trans (hb3.mono hbw2.size); obtain rfl : ov = .nilIface := hO3; have hrv3 := (hrv rfl).keep hb3; obtain ⟨a8, c8, rfl, _⟩ := hB3.rows)
          | (go_at_call 17; refine (HCJ.out _ _ hbw3 hrv3).mono ?_; rintro e w4 ⟨⟨cv, ov, rfl, hC, hO4⟩, hb4⟩; have hbw4 := hbw3.trans (hb4.mono hbw3.size); have hs1 := hb1.size; have hs2 := hb2.size; have hs3 := hb3.size; simp at hs1; have hba4 := hb1.trans ((hb2.trans ((hb3.trans (hb4.mono hs3)).mono hs2)).mono hb1.size); obtain ⟨hc, hf⟩ := bcell hba4; obtain rfl : ov = .nilIface := hO4; obtain ⟨a9, c9, rfl, _⟩ := hC.rows; have hB4 := hB3.keep hb4))
        all_goals exact bodyPost_ret (v := .tuple #[.agg #[.slice a8 bs.length c8, .int .i64 (vn : Int), .slice a9 out.length c9], .nilIface]) (by simp [results, Tryd.results6, go_sem, hc]) rfl ⟨⟨_, _, _, rfl, (((hB4.set _ _ _ (by omega)).set _ _ _ (by omega)).set _ _ _ (by omega)).mono (by omega), (((hC.set _ _ _ (by omega)).set _ _ _ (by omega)).set _ _ _ (by omega)).mono (by omega), rfl⟩, ((hbw4.setCell (Nat.le_refl _) _).setCell (Nat.le_refl _) _).setCell (Nat.le_refl _) _⟩
end Go.Proofs.YtfoohdknjacenaaDoor
