/- Plain facts: the words of a list of bytes ('splitL'), step by step. Nothing of the program. -/
import Derived.Test.YtfkodpglgeghlaaDoorKind
import Derived.Test.YtfkodpglgeghlaaDoorStr
namespace Go.Proofs.YtfkodpglgeghlaaDoor

/-- No blank and no line's end. -/
def inW (x : Int) : Bool := !gapB x
theorem dropWhile_len {α : Type} (p : α → Bool) : ∀ l : List α, (l.dropWhile p).length ≤ l.length
  | [] => by simp
  | x :: l => by
    have := dropWhile_len p l
    rw [List.dropWhile_cons]
    split
    · simp; omega
    · exact Nat.le_refl _

/-- The words: from place k on, f: none on this line yet; s: the line is left out. -/
def splitL (cm : Bool) (k : Nat) (f s : Bool) (l : List Int) : List (List Int × Nat × Bool) :=
  match l with
  | [] => []
  | x :: l =>
    if x = 10 then splitL cm (k + 1) true false l
    else if blankB x = true then splitL cm (k + 1) f s l
    else (if (s || (cm && (f && x == 99))) = true then [] else [(x :: l.takeWhile inW, k, f)]) ++ splitL cm (k + (1 + (l.takeWhile inW).length)) false (s || (cm && (f && x == 99))) (l.dropWhile inW)
termination_by l.length
decreasing_by
  · simp
  · simp
  · have := dropWhile_len inW l
    simp; omega

theorem splitL_nil (cm : Bool) (k : Nat) (f s : Bool) : splitL cm k f s [] = [] := by rw [splitL]
theorem splitL_nl (cm : Bool) (k : Nat) (f s : Bool) (l : List Int) : splitL cm k f s (10 :: l) = splitL cm (k + 1) true false l := by rw [splitL]; simp
theorem splitL_blank (cm : Bool) (k : Nat) (f s : Bool) (x : Int) (l : List Int) (h : blankB x = true) : splitL cm k f s (x :: l) = splitL cm (k + 1) f s l := by
  have h' : x ≠ 10 := by intro e; subst e; cases h
  rw [splitL, if_neg h', if_pos h]
theorem splitL_word (cm : Bool) (k : Nat) (f s : Bool) (x : Int) (l : List Int) (h : gapB x = false) : splitL cm k f s (x :: l) =
    (if (s || (cm && (f && x == 99))) = true then [] else [(x :: l.takeWhile inW, k, f)]) ++ splitL cm (k + (1 + (l.takeWhile inW).length)) false (s || (cm && (f && x == 99))) (l.dropWhile inW) := by
  rw [gap_parts] at h
  have h1 : nlB x = false := by cases e : nlB x <;> simp_all
  have h2 : blankB x = false := by cases e : blankB x <;> simp_all
  have h' : x ≠ 10 := by intro e; subst e; cases h1
  rw [splitL, if_neg h', if_neg (by rw [h2]; simp)]

theorem while_at (p : Int → Bool) : ∀ (l : List Int) (m : Nat), m ≤ l.length → (∀ i, i < m → p (l.getD i 0) = true) → (m = l.length ∨ p (l.getD m 0) = false) → l.takeWhile p = l.take m ∧ l.dropWhile p = l.drop m
  | [], m, _, _, _ => by simp
  | x :: l, 0, _, _, h => by
    have hp : p x = false := by
      rcases h with h | h
      · simp at h
      · simpa using h
    simp [hp]
  | x :: l, m + 1, h, ha, hz => by
    have hp : p x = true := by simpa using ha 0 (by omega)
    have ih := while_at p l m (by simpa using h) (fun i hi => by simpa using ha (i + 1) (by omega)) (by simpa using hz)
    rw [List.takeWhile_cons, List.dropWhile_cons, if_pos hp, if_pos hp, ih.1, ih.2]
    simp

/-- A line that is left out: up to its end. -/
theorem splitL_skip (cm : Bool) : ∀ (n : Nat) (l : List Int), l.length ≤ n → ∀ (k : Nat) (f : Bool) (m : Nat), m ≤ l.length → (∀ i, i < m → l.getD i 0 ≠ 10) → (m = l.length ∨ l.getD m 0 = 10) → splitL cm k f true l = splitL cm (k + m) true false (l.drop m)
  | 0, l, hl, k, f, m, hm, _, _ => by
    have e : l = [] := List.eq_nil_of_length_eq_zero (by omega)
    subst e
    rw [List.drop_nil, splitL_nil, splitL_nil]
  | n + 1, [], _, k, f, m, hm, _, _ => by rw [List.drop_nil, splitL_nil, splitL_nil]
  | n + 1, x :: l, hl, k, f, 0, _, _, hz => by
    have e : x = 10 := by
      rcases hz with h | h
      · simp at h
      · simpa using h
    subst e
    rw [List.drop_zero, splitL_nl, splitL_nl, Nat.add_zero]
  | n + 1, x :: l, hl, k, f, m + 1, hm, ha, hz => by
    have hx : x ≠ 10 := by simpa using ha 0 (by omega)
    by_cases hb : blankB x = true
    · rw [splitL_blank cm k f true x l hb, splitL_skip cm n l (by simpa using hl) (k + 1) f m (by simpa using hm) (fun i hi => by simpa using ha (i + 1) (by omega)) (by simpa using hz)]
      simp [Nat.add_assoc, Nat.add_comm 1 m]
    · have hg : gapB x = false := by rw [gap_parts]; simp [nlB, hx, hb]
      rw [splitL_word cm k f true x l hg]
      simp only [Bool.true_or, if_true, List.nil_append]
      have hq : ∀ l : List Int, ∀ m : Nat, m ≤ l.length → (m = l.length ∨ l.getD m 0 = 10) → (l.takeWhile inW).length ≤ m ∧ l.dropWhile inW = l.drop (l.takeWhile inW).length := by
        intro l
        induction l with
        | nil => intro m _ _; simp
        | cons y l ih =>
          intro m hm hz
          rw [List.takeWhile_cons, List.dropWhile_cons]
          cases hy : inW y with
          | false => simp
          | true =>
            simp only [if_true, List.length_cons]
            cases m with
            | zero =>
              rcases hz with h | h
              · simp at h
              · have : y = 10 := by simpa using h
                subst this; cases hy
            | succ m =>
              have := ih m (by simpa using hm) (by simpa using hz)
              exact ⟨by omega, by simpa using this.2⟩
      obtain ⟨h1, h2⟩ := hq l m (by simpa using hm) (by simpa using hz)
      rw [h2]
      generalize (l.takeWhile inW).length = q at *
      have hlen : (l.drop q).length = l.length - q := by simp
      have hll : l.length ≤ n := by simpa using hl
      have hml : m ≤ l.length := by simpa using hm
      rw [splitL_skip cm n (l.drop q) (by omega) _ false (m - q) (by omega) (fun i hi => by
        have := ha (q + i + 1) (by omega)
        simpa [List.getD] using this) (by
        rcases hz with h | h
        · left; simp at h; omega
        · right
          have : l.getD m 0 = 10 := by simpa using h
          rw [← this]
          simp [List.getD, show q + (m - q) = m by omega])]
      simp [List.drop_drop, show q + (m - q) = m by omega, show k + (1 + q) + (m - q) = k + (m + 1) by omega]

section
variable (cm : Bool) (xs : List Int)
theorem drop_cons (k : Nat) (h : k < xs.length) : xs.drop k = xs.getD k 0 :: xs.drop (k + 1) := by
  rw [List.drop_eq_getElem_cons h]; simp [List.getD, h]
/-- At a line's end. -/
theorem step_nl (k : Nat) (f s : Bool) (h : k < xs.length) (hx : xs.getD k 0 = 10) : splitL cm k f s (xs.drop k) = splitL cm (k + 1) true false (xs.drop (k + 1)) := by
  rw [drop_cons xs k h, hx, splitL_nl]
theorem step_blank (k : Nat) (f s : Bool) (h : k < xs.length) (hx : blankB (xs.getD k 0) = true) : splitL cm k f s (xs.drop k) = splitL cm (k + 1) f s (xs.drop (k + 1)) := by
  rw [drop_cons xs k h, splitL_blank cm k f s _ _ hx]
theorem step_gap (k : Nat) (f : Bool) (h : k < xs.length) (hx : gapB (xs.getD k 0) = true) : splitL cm k f false (xs.drop k) = splitL cm (k + 1) (f || nlB (xs.getD k 0)) false (xs.drop (k + 1)) := by
  by_cases e : xs.getD k 0 = 10
  · rw [step_nl cm xs k f false h e, e]; simp [nlB]
  · have hn : nlB (xs.getD k 0) = false := decide_eq_false e
    have hb : blankB (xs.getD k 0) = true := by rw [gap_parts, hn] at hx; exact hx
    rw [step_blank cm xs k f false h hb, hn, Bool.or_false]
theorem step_word (k j : Nat) (f s : Bool) (h : k < xs.length) (hx : gapB (xs.getD k 0) = false) (hkj : k ≤ j) (hj : j ≤ xs.length) (hin : ∀ i, k ≤ i → i < j → gapB (xs.getD i 0) = false) (hend : j = xs.length ∨ gapB (xs.getD j 0) = true) :
    splitL cm k f s (xs.drop k) = (if (s || (cm && (f && xs.getD k 0 == 99))) = true then [] else [((xs.drop k).take (j - k), k, f)]) ++ splitL cm j false (s || (cm && (f && xs.getD k 0 == 99))) (xs.drop j) := by
  have hkj' : k < j := by
    rcases Nat.lt_or_ge k j with h' | h'
    · exact h'
    · have e : j = k := by omega
      rw [e] at hend
      rcases hend with h1 | h1
      · omega
      · rw [hx] at h1; cases h1
  obtain ⟨w1, w2⟩ := while_at inW (xs.drop (k + 1)) (j - k - 1) (by simp; omega) (fun i hi => by
    have := hin (k + 1 + i) (by omega) (by omega)
    simp only [List.getD, List.getElem?_drop]
    unfold inW
    rw [List.getD] at this
    rw [this]; rfl) (by
    rcases hend with h1 | h1
    · left; simp; omega
    · right
      simp only [List.getD, List.getElem?_drop]
      rw [show k + 1 + (j - k - 1) = j by omega]
      unfold inW
      rw [List.getD] at h1
      rw [h1]; rfl)
  have hle : (List.take (j - k - 1) (xs.drop (k + 1))).length = j - k - 1 := by simp; omega
  have hd : ((xs.drop (k + 1)).drop (j - k - 1)) = xs.drop j := by rw [List.drop_drop]; congr 1; omega
  have ht : xs.getD k 0 :: (xs.drop (k + 1)).take (j - k - 1) = (xs.drop k).take (j - k) := by
    rw [drop_cons xs k h, show j - k = (j - k - 1) + 1 by omega, List.take_succ_cons]; simp
  rw [show splitL cm k f s (xs.drop k) = splitL cm k f s (xs.getD k 0 :: xs.drop (k + 1)) by rw [← drop_cons xs k h], splitL_word cm k f s _ _ hx, w1, w2, hle, hd, ht, show k + (1 + (j - k - 1)) = j by omega]
theorem step_note (k j : Nat) (h : k < xs.length) (hx : xs.getD k 0 = 99) (hkj : k ≤ j) (hj : j ≤ xs.length) (hin : ∀ i, k ≤ i → i < j → nlB (xs.getD i 0) = false) (hend : j = xs.length ∨ nlB (xs.getD j 0) = true) :
    splitL true k true false (xs.drop k) = splitL true j true false (xs.drop j) := by
  have h1 : splitL true k true false (xs.drop k) = splitL true k true true (xs.drop k) := by
    rw [drop_cons xs k h, hx, splitL_word true k true false 99 _ rfl, splitL_word true k true true 99 _ rfl]; rfl
  have hn : ∀ y : Int, nlB y = false → y ≠ 10 := fun y hy e => by subst e; cases hy
  rw [h1, splitL_skip true xs.length (xs.drop k) (by simp) k true (j - k) (by simp; omega) (fun i hi => by
    have := hn _ (hin (k + i) (by omega) (by omega))
    simpa [List.getD] using this) (by
    rcases hend with h2 | h2
    · left; simp; omega
    · right
      have : xs.getD j 0 = 10 := by unfold nlB at h2; simpa using h2
      rw [← this]
      simp [List.getD, show k + (j - k) = j by omega]), List.drop_drop, show k + (j - k) = j by omega]
theorem step_end (k : Nat) (f s : Bool) (h : xs.length ≤ k) : splitL cm k f s (xs.drop k) = [] := by rw [List.drop_eq_nil_of_le h, splitL_nil]
end
/-- The words of a text. -/
def wordsL (cm : Bool) (xs : List Int) : List (List Int × Nat × Bool) := splitL cm 0 true false xs
end Go.Proofs.YtfkodpglgeghlaaDoor
