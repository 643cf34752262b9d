/- The contract of dimacs.Read: a text's clauses, or what is amiss first. Conditions: the slice reads as bytes, few of them; the errors lie as 'Sents8' says. -/
import Derived.Test.YtfoohdknjacenaaDoorCls
import Derived.Test.YtfoohdknjacenaaDoorPlaces
import Derived.Laws.ResultCell
namespace Go.Proofs.YtfoohdknjacenaaDoor
open Go.RowKit

/-- What a text tells: variables, clauses; the words that the fault speaks of, the fault. -/
def readL (xs : List Int) : Int × List (List Int) × List Wd × Flt :=
  if (headL (wordsL true xs)).2.2.isOk = true then
    if (clausesL (headL (wordsL true xs)).1 (headL (wordsL true xs)).2.1 0 ((wordsL true xs).drop 4) [] []).2.isOk = true then ((headL (wordsL true xs)).1, (clausesL (headL (wordsL true xs)).1 (headL (wordsL true xs)).2.1 0 ((wordsL true xs).drop 4) [] []).1, (wordsL true xs).drop 4, .ok)
    else (0, [], (wordsL true xs).drop 4, (clausesL (headL (wordsL true xs)).1 (headL (wordsL true xs)).2.1 0 ((wordsL true xs).drop 4) [] []).2)
  else (0, [], wordsL true xs, (headL (wordsL true xs)).2.2)

theorem mem_word {p : Int → Bool} {l : List Int} {x : Int} (h : x ∈ l.takeWhile p) : x ∈ l := (List.takeWhile_sublist p).subset h
theorem mem_wordD {p : Int → Bool} {l : List Int} {x : Int} (h : x ∈ l.dropWhile p) : x ∈ l := (List.dropWhile_sublist p).subset h
/-- Each word of a text is some of its bytes; there are no more words than bytes. -/
theorem splitL_ok (cm : Bool) : ∀ (n : Nat) (l : List Int), l.length ≤ n → l.length ≤ 4000000 → Bts l → ∀ (k : Nat) (f s : Bool), WOk (splitL cm k f s l) ∧ (splitL cm k f s l).length ≤ l.length
  | n, [], _, _, _, k, f, s => by rw [splitL_nil]; exact ⟨fun _ h => (by cases h), Nat.le_refl _⟩
  | 0, x :: l, hn, _, _, _, _, _ => by simp at hn
  | n + 1, x :: l, hn, hm, hb, k, f, s => by
    have hl : l.length ≤ n := by simpa using hn
    have hm' : l.length ≤ 4000000 := by simp at hm; omega
    have hb' : Bts l := fun y hy => hb y (by simp [hy])
    by_cases h10 : x = 10
    · subst h10
      rw [splitL_nl]
      have := splitL_ok cm n l hl hm' hb' (k + 1) true false
      exact ⟨this.1, by have := this.2; simp; omega⟩
    · cases hbk : blankB x with
      | true =>
        rw [splitL_blank cm k f s x l hbk]
        have := splitL_ok cm n l hl hm' hb' (k + 1) f s
        exact ⟨this.1, by have := this.2; simp; omega⟩
      | false =>
        have hgap : gapB x = false := by rw [gap_parts, hbk]; simp [nlB, h10]
        rw [splitL_word cm k f s x l hgap]
        have hd := dropWhile_len inW l
        have hd2 : (l.dropWhile inW).length ≤ n := by omega
        have ih := fun (kk : Nat) (f s : Bool) => splitL_ok cm n (l.dropWhile inW) hd2 (by omega) (fun y hy => hb' y (mem_wordD hy)) kk f s
        have ht : (l.takeWhile inW).length ≤ l.length := (List.takeWhile_sublist inW).length_le
        split
        · rw [List.nil_append]
          exact ⟨(ih _ _ _).1, by have := (ih (k + (1 + (l.takeWhile inW).length)) false (s || (cm && (f && x == 99)))).2; simp; omega⟩
        · refine ⟨fun y hy => ?_, by have := (ih (k + (1 + (l.takeWhile inW).length)) false (s || (cm && (f && x == 99)))).2; simp; omega⟩
          rw [List.mem_append] at hy
          rcases hy with hy | hy
          · have e : y = (x :: l.takeWhile inW, k, f) := by simpa using hy
            subst e
            refine ⟨by simp, fun z hz => ?_, by simp; simp at hm; omega⟩
            have hz' : z = x ∨ z ∈ l.takeWhile inW := by simpa using hz
            rcases hz' with rfl | hz'
            · exact hb z (by simp)
            · exact hb' z (mem_word hz')
          · exact (ih _ _ _).1 y hy
theorem words_ok {xs : List Int} (hb : Bts xs) (hn : xs.length ≤ 4000) : WOk (wordsL true xs) ∧ (wordsL true xs).length ≤ 4000 := by
  have := splitL_ok true xs.length xs (Nat.le_refl _) (by omega) hb 0 true false
  exact ⟨this.1, by have := this.2; unfold wordsL; omega⟩
theorem head_four {ws : List Wd} (h : (headL ws).2.2.isOk = true) : 4 ≤ ws.length := by
  unfold headL at h
  split at h
  · cases h
  · split at h
    · cases h
    · split at h
      · cases h
      · split at h
        · cases h
        · split at h
          · cases h
          · rename_i hc
            unfold cntL at hc
            split at hc
            · rename_i h'; omega
            · cases hc
theorem WOk.drop {ws : List Wd} (h : WOk ws) (k : Nat) : WOk (ws.drop k) := fun x hx => h x (List.mem_of_mem_drop hx)
def ReadPost (A : Nat → Addr) (w : World) (e : Int) (R : Int × List (List Int) × List Wd × Flt) (r : Ending) (w' : World) : Prop :=
  (∃ cv ov, r = .returned (.tuple #[.agg #[.int .i64 R.1, cv], ov]) ∧ CRow w' w.heap.size cv R.2.1 ∧ OutV A w.heap.size w' R.2.2.1 e ov R.2.2.2) ∧ Below w.heap.size w w'

end Go.Proofs.YtfoohdknjacenaaDoor
