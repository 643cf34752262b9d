/- Plain facts: each word of a text is some of its bytes; there are no more words than bytes. Nothing of the program. -/
import Derived.Test.YtfkodpglgeghlaaDoorHeadP
namespace Go.Proofs.YtfkodpglgeghlaaDoor

theorem mem_word {p : Int → Bool} {l : List Int} {x : Int} (h : x ∈ l.takeWhile p) : x ∈ l := (List.takeWhile_sublist p).subset h
theorem mem_wordD {p : Int → Bool} {l : List Int} {x : Int} (h : x ∈ l.dropWhile p) : x ∈ l := (List.dropWhile_sublist p).subset h
/-- Each word of a text is some of its bytes; there are no more words than bytes. -/
theorem splitL_ok (cm : Bool) : ∀ (n : Nat) (l : List Int), l.length ≤ n → l.length ≤ 4000000 → Bts l → ∀ (k : Nat) (f s : Bool), WOk (splitL cm k f s l) ∧ (splitL cm k f s l).length ≤ l.length
  | n, [], _, _, _, k, f, s => by rw [splitL_nil]; exact ⟨fun _ h => (by cases h), Nat.le_refl _⟩
  | 0, x :: l, hn, _, _, _, _, _ => by simp at hn
  | n + 1, x :: l, hn, hm, hb, k, f, s => by
    have hl : l.length ≤ n := by simpa using hn
    have hm' : l.length ≤ 4000000 := by simp at hm; omega
    have hb' : Bts l := fun y hy => hb y (by simp [hy])
    by_cases h10 : x = 10
    · subst h10
      rw [splitL_nl]
      have := splitL_ok cm n l hl hm' hb' (k + 1) true false
      exact ⟨this.1, by have := this.2; simp; omega⟩
    · cases hbk : blankB x with
      | true =>
        rw [splitL_blank cm k f s x l hbk]
        have := splitL_ok cm n l hl hm' hb' (k + 1) f s
        exact ⟨this.1, by have := this.2; simp; omega⟩
      | false =>
        have hgap : gapB x = false := by rw [gap_parts, hbk]; simp [nlB, h10]
        rw [splitL_word cm k f s x l hgap]
        have hd := dropWhile_len inW l
        have hd2 : (l.dropWhile inW).length ≤ n := by omega
        have ih := fun (kk : Nat) (f s : Bool) => splitL_ok cm n (l.dropWhile inW) hd2 (by omega) (fun y hy => hb' y (mem_wordD hy)) kk f s
        have ht : (l.takeWhile inW).length ≤ l.length := (List.takeWhile_sublist inW).length_le
        split
        · rw [List.nil_append]
          exact ⟨(ih _ _ _).1, by have := (ih (k + (1 + (l.takeWhile inW).length)) false (s || (cm && (f && x == 99)))).2; simp; omega⟩
        · refine ⟨fun y hy => ?_, by have := (ih (k + (1 + (l.takeWhile inW).length)) false (s || (cm && (f && x == 99)))).2; simp; omega⟩
          rw [List.mem_append] at hy
          rcases hy with hy | hy
          · have e : y = (x :: l.takeWhile inW, k, f) := by simpa using hy
            subst e
            refine ⟨by simp, fun z hz => ?_, by simp; simp at hm; omega⟩
            have hz' : z = x ∨ z ∈ l.takeWhile inW := by simpa using hz
            rcases hz' with rfl | hz'
            · exact hb z (by simp)
            · exact hb' z (mem_word hz')
          · exact (ih _ _ _).1 y hy
end Go.Proofs.YtfkodpglgeghlaaDoor
