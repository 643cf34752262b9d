/- The contract of dimacs.Read: a text's clauses, or what is amiss first. Conditions: the slice reads as bytes, few of them; the errors lie as 'Sents8' says. -/
import Derived.Test.YteihaanpllmieaaDoorCls
import Derived.Test.YteihaanpllmieaaDoorPlaces
import Derived.Laws.ResultCell
namespace Go.Proofs.YteihaanpllmieaaDoor
open Go.RowKit

/-- What a text tells: variables, clauses; the words that the fault speaks of, the fault. -/
def readL (xs : List Int) : Int × List (List Int) × List Wd × Flt :=
  if (headL (wordsL true xs)).2.2.isOk = true then
    if (clausesL (headL (wordsL true xs)).1 (headL (wordsL true xs)).2.1 0 ((wordsL true xs).drop 4) [] []).2.isOk = true then ((headL (wordsL true xs)).1, (clausesL (headL (wordsL true xs)).1 (headL (wordsL true xs)).2.1 0 ((wordsL true xs).drop 4) [] []).1, (wordsL true xs).drop 4, .ok)
    else (0, [], (wordsL true xs).drop 4, (clausesL (headL (wordsL true xs)).1 (headL (wordsL true xs)).2.1 0 ((wordsL true xs).drop 4) [] []).2)
  else (0, [], wordsL true xs, (headL (wordsL true xs)).2.2)

theorem mem_word {p : Int → Bool} {l : List Int} {x : Int} (h : x ∈ l.takeWhile p) : x ∈ l := (List.takeWhile_sublist p).subset h
theorem mem_wordD {p : Int → Bool} {l : List Int} {x : Int} (h : x ∈ l.dropWhile p) : x ∈ l := (List.dropWhile_sublist p).subset h
/-- Each word of a text is some of its bytes; there are no more words than bytes. -/
theorem splitL_ok (cm : Bool) : ∀ (n : Nat) (l : List Int), l.length ≤ n → l.length ≤ 4000000 → Bts l → ∀ (k : Nat) (f s : Bool), WOk (splitL cm k f s l) ∧ (splitL cm k f s l).length ≤ l.length
  | n, [], _, _, _, k, f, s => by rw [splitL_nil]; exact ⟨fun _ h => (by cases h), Nat.le_refl _⟩
  | 0, x :: l, hn, _, _, _, _, _ => by simp at hn
  | n + 1, x :: l, hn, hm, hb, k, f, s => by
    have hl : l.length ≤ n := by simpa using hn
    have hm' : l.length ≤ 4000000 := by simp at hm; omega
    have hb' : Bts l := fun y hy => hb y (by simp [hy])
    by_cases h10 : x = 10
    · subst h10
      rw [splitL_nl]
      have := splitL_ok cm n l hl hm' hb' (k + 1) true false
      exact ⟨this.1, by have := this.2; simp; omega⟩
    · cases hbk : blankB x with
      | true =>
        rw [splitL_blank cm k f s x l hbk]
        have := splitL_ok cm n l hl hm' hb' (k + 1) f s
        exact ⟨this.1, by have := this.2; simp; omega⟩
      | false =>
        have hgap : gapB x = false := by rw [gap_parts, hbk]; simp [nlB, h10]
        rw [splitL_word cm k f s x l hgap]
        have hd := dropWhile_len inW l
        have hd2 : (l.dropWhile inW).length ≤ n := by omega
        have ih := fun (kk : Nat) (f s : Bool) => splitL_ok cm n (l.dropWhile inW) hd2 (by omega) (fun y hy => hb' y (mem_wordD hy)) kk f s
        have ht : (l.takeWhile inW).length ≤ l.length := (List.takeWhile_sublist inW).length_le
        split
        · rw [List.nil_append]
          exact ⟨(ih _ _ _).1, by have := (ih (k + (1 + (l.takeWhile inW).length)) false (s || (cm && (f && x == 99)))).2; simp; omega⟩
        · refine ⟨fun y hy => ?_, by have := (ih (k + (1 + (l.takeWhile inW).length)) false (s || (cm && (f && x == 99)))).2; simp; omega⟩
          rw [List.mem_append] at hy
          rcases hy with hy | hy
          · have e : y = (x :: l.takeWhile inW, k, f) := by simpa using hy
            subst e
            refine ⟨by simp, fun z hz => ?_, by simp; simp at hm; omega⟩
            have hz' : z = x ∨ z ∈ l.takeWhile inW := by simpa using hz
            rcases hz' with rfl | hz'
            · exact hb z (by simp)
            · exact hb' z (mem_word hz')
          · exact (ih _ _ _).1 y hy
theorem words_ok {xs : List Int} (hb : Bts xs) (hn : xs.length ≤ 4000) : WOk (wordsL true xs) ∧ (wordsL true xs).length ≤ 4000 := by
  have := splitL_ok true xs.length xs (Nat.le_refl _) (by omega) hb 0 true false
  exact ⟨this.1, by have := this.2; unfold wordsL; omega⟩
theorem head_four {ws : List Wd} (h : (headL ws).2.2.isOk = true) : 4 ≤ ws.length := by
  unfold headL at h
  split at h
  · cases h
  · split at h
    · cases h
    · split at h
      · cases h
      · split at h
        · cases h
        · split at h
          · cases h
          · rename_i hc
            unfold cntL at hc
            split at hc
            · rename_i h'; omega
            · cases hc
theorem WOk.drop {ws : List Wd} (h : WOk ws) (k : Nat) : WOk (ws.drop k) := fun x hx => h x (List.mem_of_mem_drop hx)
def ReadPost (A : Nat → Addr) (w : World) (e : Int) (R : Int × List (List Int) × List Wd × Flt) (r : Ending) (w' : World) : Prop :=
  (∃ cv ov, r = .returned (.tuple #[.agg #[.int .i64 R.1, cv], ov]) ∧ CRow w' w.heap.size cv R.2.1 ∧ OutV A w.heap.size w' R.2.2.1 e ov R.2.2.2) ∧ Below w.heap.size w w'

set_option maxHeartbeats 4000000 in
theorem readD_any (A : Nat → Addr) (v : Value) (xs : List Int) (w : World) (hS : Sents8 w A) (hv : RowG (Value.int .u8) 0 w v xs) (hb : Bts xs) (hn : xs.length ≤ 4000) :
    Calls Tryd.prog 7 #[v] w (ReadPost A w xs.length (readL xs)) := by
  obtain ⟨hok, hwn⟩ := words_ok hb hn
  have HSP := Lib.hid (fun W (hW : Below w.heap.size w W) => split_row v xs true W (hv.keep hW) hb (by omega))
  have HH := Lib.hid (fun u W (hW : Below w.heap.size w W) (h : WRow W u (wordsL true xs)) => headOf_any A u (wordsL true xs) xs.length W (hS.keep hW) h hok hwn)
  have HC := Lib.hid (fun u W (hW : Below w.heap.size w W) (h : WRowO W u ((wordsL true xs).drop 4)) => clausesOf_any A u ((wordsL true xs).drop 4) xs.length (headL (wordsL true xs)).1 (headL (wordsL true xs)).2.1 W (hS.keep hW) h (hok.drop 4) (by rw [List.length_drop]; omega))
  obtain ⟨a, cap, rfl, hcl, hcm, _⟩ := hv
  unfold maxLen at hcm
  clear hS hb hok
  have hbw : ∀ o, Below w.heap.size w (w.alloc o) := fun o => (Below.refl _ w).alloc (Nat.le_refl _) _
  have HB := Lib.hid hbw; clear hbw
  have H4 := Lib.hid (fun h => head_four (ws := wordsL true xs) h)
  unfold readL
  generalize wordsL true xs = ws at *
  generalize hlen : xs.length = n at *
  cases hk : (headL ws).2.2.isOk with
  | false =>
    rw [if_neg (by simp)]
    have hk' : (headL ws).2.2 ≠ .ok := fun h => by rw [h] at hk; cases hk
    have HK := Lib.hid hk'
    clear hk hk' HC H4
    generalize (headL ws).2.2 = f at *
    generalize (headL ws).2.1 = n2 at *
    generalize (headL ws).1 = n1 at *
    go_enter Tryd.func7, Tryd.ntmps7
    go_wp2_with (first
      | (go_at_call 9; refine (HSP.out _ (HB.out _)).mono ?_; rintro e w1 ⟨⟨u, rfl, hr⟩, hb1⟩; have hbw1 := (HB.out _).trans (hb1.mono (by simp)))
      | (go_at_call 11; refine (HH.out _ _ hbw1 hr).mono ?_; rintro e w2 ⟨⟨ov, kk, rfl, hO, _⟩, hb2⟩; have hbw2 := hbw1.trans (hb2.mono hbw1.size); have hba2 := hb1.trans (hb2.mono hb1.size); obtain ⟨hc, hf⟩ := bcell hba2; obtain ⟨t, u, rfl⟩ := hO.iface HK.out))
    have hs1 := hb1.size
    simp at hs1
    exact bodyPost_ret (v := .tuple #[.agg #[.int .i64 0, .slice none 0 0], .iface t u]) (by simp [results, Tryd.results7, go_sem, hc]) rfl ⟨⟨_, _, rfl, CRow.nil _ _, ((hO.set _ _ _ (by omega)).set _ _ _ (by omega)).mono (by omega)⟩, (hbw2.setCell (Nat.le_refl _) _).setCell (Nat.le_refl _) _⟩
  | true =>
    rw [if_pos rfl]
    have h4 := H4.out hk
    have HOK := Lib.hid ((isOk_iff _).1 hk)
    clear H4
    have hcut : ∀ W u, WRow W u ws → ∃ g c, u = .slice (some ⟨g, 0, none⟩) ws.length c ∧ ws.length ≤ c ∧ c ≤ 9223372036854775807 ∧ ∀ W', Below W.heap.size W W' → ∀ c', ws.length - 4 ≤ c' → c' ≤ 9223372036854775807 → WRowO W' (.slice (some ⟨g, 12, none⟩) (ws.length - 4) c') (ws.drop 4) := fun W u h => by
      obtain ⟨g, c, e, h1, h2, h3⟩ := wrow_some h (by omega)
      refine ⟨g, c, e, h1, h2, fun W' hW c' h5 h6 => ⟨_, c', by rw [List.length_drop], by rw [List.length_drop]; exact h5, by unfold maxLen; omega, .inr ⟨g, 12, rfl, (h3.keep hW).cut 4⟩⟩⟩
    have HCUT := Lib.hid hcut; clear hcut
    have HCUT2 : Hid (∀ W a', ws.length ≤ 4 → WRowO W (.slice a' (ws.length - 4) 0) (ws.drop 4)) := fun W a' h => ⟨a', 0, by rw [List.length_drop], by rw [List.length_drop]; omega, by unfold maxLen; omega, .inl (by rw [List.length_drop]; omega)⟩
    generalize (headL ws).2.2 = f at *
    obtain rfl := HOK.out
    clear HOK hk
    generalize (headL ws).2.1 = n2 at *
    generalize (headL ws).1 = n1 at *
    cases hk : (clausesL n1 n2 0 (ws.drop 4) [] []).2.isOk with
    | false =>
      rw [if_neg (by simp)]
      have hk' : (clausesL n1 n2 0 (ws.drop 4) [] []).2 ≠ .ok := fun h => by rw [h] at hk; cases hk
      have HK := Lib.hid hk'
      clear hk hk'
      generalize (clausesL n1 n2 0 (ws.drop 4) [] []).2 = f at *
      generalize (clausesL n1 n2 0 (ws.drop 4) [] []).1 = out at *
      generalize ws.length = m at *
      go_enter Tryd.func7, Tryd.ntmps7
      go_wp2_with (first
        | (go_at_call 9; refine (HSP.out _ (HB.out _)).mono ?_; rintro e w1 ⟨⟨u, rfl, hr⟩, hb1⟩; have hbw1 := (HB.out _).trans (hb1.mono (by simp)); obtain ⟨g, c, rfl, hmc, hc9, hr4⟩ := HCUT.out _ _ hr)
        | (go_at_call 11; refine (HH.out _ _ hbw1 hr).mono ?_; rintro e w2 ⟨⟨ov, kk, rfl, hO, hkk⟩, hb2⟩; have hbw2 := hbw1.trans (hb2.mono hbw1.size); obtain rfl : kk = 4 := (by first | exact hkk rfl | exact hkk trivial | exact hkk); obtain rfl : ov = .nilIface := hO)
        | (go_at_call 15; refine (HC.out _ _ hbw2 (by first | exact hr4 _ hb2 _ (by omega) (by omega) | exact HCUT2.out _ _ (by omega))).mono ?_; rintro e w3 ⟨⟨cv, ov, rfl, hC, hO3⟩, hb3⟩; have hbw3 := hbw2.trans (hb3.mono hbw2.size); have hs1 := hb1.size; have hs2 := hb2.size; simp at hs1; have hba3 := hb1.trans ((hb2.trans (hb3.mono hs2)).mono hb1.size); obtain ⟨hc, hf⟩ := bcell hba3; obtain ⟨t, u, rfl⟩ := hO3.iface HK.out))
      all_goals exact bodyPost_ret (v := .tuple #[.agg #[.int .i64 0, .slice none 0 0], .iface t u]) (by simp [results, Tryd.results7, go_sem, hc]) rfl ⟨⟨_, _, rfl, CRow.nil _ _, ((hO3.set _ _ _ (by omega)).set _ _ _ (by omega)).mono (by omega)⟩, (hbw3.setCell (Nat.le_refl _) _).setCell (Nat.le_refl _) _⟩
    | true =>
      rw [if_pos rfl]
      have HOK := Lib.hid ((isOk_iff _).1 hk)
      clear hk
      generalize (clausesL n1 n2 0 (ws.drop 4) [] []).2 = f at *
      obtain rfl := HOK.out
      clear HOK
      generalize (clausesL n1 n2 0 (ws.drop 4) [] []).1 = out at *
      generalize ws.length = m at *
      go_enter Tryd.func7, Tryd.ntmps7
      go_wp2_with (first
        | (go_at_call 9; refine (HSP.out _ (HB.out _)).mono ?_; rintro e w1 ⟨⟨u, rfl, hr⟩, hb1⟩; have hbw1 := (HB.out _).trans (hb1.mono (by simp)); obtain ⟨g, c, rfl, hmc, hc9, hr4⟩ := HCUT.out _ _ hr)
        | (go_at_call 11; refine (HH.out _ _ hbw1 hr).mono ?_; rintro e w2 ⟨⟨ov, kk, rfl, hO, hkk⟩, hb2⟩; have hbw2 := hbw1.trans (hb2.mono hbw1.size); obtain rfl : kk = 4 := (by first | exact hkk rfl | exact hkk trivial | exact hkk); obtain rfl : ov = .nilIface := hO)
        | (go_at_call 15; refine (HC.out _ _ hbw2 (by first | exact hr4 _ hb2 _ (by omega) (by omega) | exact HCUT2.out _ _ (by omega))).mono ?_; rintro e w3 ⟨⟨cv, ov, rfl, hC, hO3⟩, hb3⟩; have hbw3 := hbw2.trans (hb3.mono hbw2.size); have hs1 := hb1.size; have hs2 := hb2.size; simp at hs1; have hba3 := hb1.trans ((hb2.trans (hb3.mono hs2)).mono hb1.size); obtain ⟨hc, hf⟩ := bcell hba3; obtain rfl : ov = .nilIface := hO3; obtain ⟨a9, c9, rfl, _⟩ := hC.rows))
      all_goals exact bodyPost_ret (v := .tuple #[.agg #[.int .i64 n1, .slice a9 out.length c9], .nilIface]) (by simp [results, Tryd.results7, go_sem, hc]) rfl ⟨⟨_, _, rfl, ((hC.set _ _ _ (by omega)).set _ _ _ (by omega)).mono (by omega), rfl⟩, (hbw3.setCell (Nat.le_refl _) _).setCell (Nat.le_refl _) _⟩
end Go.Proofs.YteihaanpllmieaaDoor
