/- Plain facts: where the words of a text stand ('Pl'), and how many of its bytes are in words. Nothing of the program. -/
import Derived.Test.YtfoohdknjacenaaDoorWRow
namespace Go.Proofs.YtfoohdknjacenaaDoor

/-- A line's end between e and p. -/
def nlIn (xs : List Int) (e p : Nat) : Bool := ((xs.drop e).take (p - e)).any nlB
theorem nlIn_same (xs : List Int) (e : Nat) : nlIn xs e e = false := by simp [nlIn]
theorem nlIn_snoc (xs : List Int) (e k : Nat) (h1 : e ≤ k) (h2 : k < xs.length) : nlIn xs e (k + 1) = (nlIn xs e k || nlB (xs.getD k 0)) := by
  unfold nlIn
  rw [show k + 1 - e = (k - e) + 1 by omega, takeSnocI (xs.drop e) (k - e) (by simp; omega), List.any_append, show (xs.drop e).getD (k - e) 0 = xs.getD k 0 by simp [List.getD, show e + (k - e) = k by omega]]
  simp
/-- The words ws stand, in order, from e on. -/
inductive Pl (xs : List Int) : Nat → Bool → List Wd → Prop
  | nil (e : Nat) (i0 : Bool) (h1 : e ≤ xs.length) (h2 : ∀ k, e ≤ k → k < xs.length → gapB (xs.getD k 0) = true) : Pl xs e i0 []
  | cons (e : Nat) (i0 : Bool) (t : List Int) (p : Nat) (ws : List Wd) (h1 : e ≤ p) (h2 : 0 < t.length) (h3 : p + t.length ≤ xs.length) (h4 : t = (xs.drop p).take t.length)
      (h5 : ∀ k, e ≤ k → k < p → gapB (xs.getD k 0) = true) (h6 : ∀ k, p ≤ k → k < p + t.length → gapB (xs.getD k 0) = false) (h7 : Pl xs (p + t.length) false ws) : Pl xs e i0 ((t, p, i0 || nlIn xs e p) :: ws)
theorem word_end (xs : List Int) : ∀ (d k : Nat), d = xs.length - k → k ≤ xs.length → ∃ j, k ≤ j ∧ j ≤ xs.length ∧ (∀ i, k ≤ i → i < j → gapB (xs.getD i 0) = false) ∧ (j = xs.length ∨ gapB (xs.getD j 0) = true)
  | 0, k, h, hk => ⟨k, Nat.le_refl _, hk, fun i h1 h2 => by omega, .inl (by omega)⟩
  | d + 1, k, h, hk => by
    cases hg : gapB (xs.getD k 0) with
    | true => exact ⟨k, Nat.le_refl _, hk, fun i h1 h2 => by omega, .inr hg⟩
    | false =>
      obtain ⟨j, h1, h2, h3, h4⟩ := word_end xs d (k + 1) (by omega) (by omega)
      refine ⟨j, by omega, h2, fun i hi1 hi2 => ?_, h4⟩
      by_cases e : i = k
      · rw [e]; exact hg
      · exact h3 i (by omega) hi2
theorem split_placed (xs : List Int) : ∀ (d k e : Nat) (i0 : Bool), xs.length - k ≤ d → e ≤ k → k ≤ xs.length → (∀ i, e ≤ i → i < k → gapB (xs.getD i 0) = true) → Pl xs e i0 (splitL false k (i0 || nlIn xs e k) false (xs.drop k))
  | 0, k, e, i0, hd, hek, hk, hg => by
    rw [step_end false xs k _ false (by omega)]
    exact .nil e i0 (by omega) fun i h1 h2 => hg i h1 (by omega)
  | d + 1, k, e, i0, hd, hek, hk, hg => by
    by_cases hlt : k < xs.length
    · cases hgap : gapB (xs.getD k 0) with
      | true =>
        rw [step_gap false xs k _ hlt hgap, Bool.or_assoc, ← nlIn_snoc xs e k hek hlt]
        exact split_placed xs d (k + 1) e i0 (by omega) (by omega) (by omega) fun i h1 h2 => by
          by_cases e' : i = k
          · rw [e']; exact hgap
          · exact hg i h1 (by omega)
      | false =>
        obtain ⟨j, h1, h2, h3, h4⟩ := word_end xs (xs.length - k) k rfl hk
        have hjk : k < j := by
          rcases Nat.lt_or_ge k j with h' | h'
          · exact h'
          · have e' : j = k := by omega
            rw [e', hgap] at h4
            rcases h4 with h4 | h4
            · omega
            · cases h4
        rw [step_word false xs k j _ false hlt hgap h1 h2 h3 h4]
        simp only [Bool.false_and, Bool.or_false, Bool.false_eq_true, if_false]
        have hl : ((xs.drop k).take (j - k)).length = j - k := by simp; omega
        have ih := split_placed xs d j j false (by omega) (Nat.le_refl _) h2 (fun i h1 h2 => by omega)
        rw [nlIn_same, Bool.or_false] at ih
        exact .cons e i0 _ k _ hek (by omega) (by omega) (by rw [hl]) hg (fun i h1 h2 => h3 i h1 (by omega)) (by rw [hl, show k + (j - k) = j by omega]; exact ih)
    · rw [step_end false xs k _ false (by omega)]
      exact .nil e i0 (by omega) fun i h1 h2 => hg i h1 (by omega)
theorem words_placed (xs : List Int) : Pl xs 0 true (wordsL false xs) := by
  have := split_placed xs xs.length 0 0 true (by omega) (Nat.le_refl _) (Nat.zero_le _) (fun i h1 h2 => by omega)
  rwa [Bool.true_or] at this
/-- How many bytes are in words. -/
def ngc (l : List Int) : Nat := (l.filter inW).length
theorem ngc_snoc (xs : List Int) (k : Nat) (h : k < xs.length) : ngc (xs.take (k + 1)) = ngc (xs.take k) + if gapB (xs.getD k 0) = true then 0 else 1 := by
  unfold ngc
  rw [takeSnocI xs k h, List.filter_append, List.length_append]
  congr 1
  unfold inW
  cases hg : gapB (xs.getD k 0) <;> simp only [List.filter_cons, hg, List.filter_nil] <;> rfl
theorem ngc_le (l : List Int) : ngc l ≤ l.length := List.length_filter_le _ _
theorem ngc_gap (xs : List Int) (e : Nat) : ∀ m, e + m ≤ xs.length → (∀ k, e ≤ k → k < e + m → gapB (xs.getD k 0) = true) → ngc (xs.take (e + m)) = ngc (xs.take e)
  | 0, _, _ => rfl
  | m + 1, h, hg => by
    rw [← Nat.add_assoc, ngc_snoc xs (e + m) (by omega), ngc_gap xs e m (by omega) (fun k h1 h2 => hg k h1 (by omega)), hg (e + m) (by omega) (by omega)]
    rfl
theorem ngc_word (xs : List Int) (e : Nat) : ∀ m, e + m ≤ xs.length → (∀ k, e ≤ k → k < e + m → gapB (xs.getD k 0) = false) → ngc (xs.take (e + m)) = ngc (xs.take e) + m
  | 0, _, _ => rfl
  | m + 1, h, hg => by
    rw [← Nat.add_assoc, ngc_snoc xs (e + m) (by omega), ngc_word xs e m (by omega) (fun k h1 h2 => hg k h1 (by omega)), hg (e + m) (by omega) (by omega)]
    rfl
theorem ngc_all {xs : List Int} {e : Nat} (h1 : e ≤ xs.length) (h2 : ∀ k, e ≤ k → k < xs.length → gapB (xs.getD k 0) = true) : ngc (xs.take e) = ngc xs := by
  have := ngc_gap xs e (xs.length - e) (by omega) (fun k h3 h4 => h2 k h3 (by omega))
  rw [show e + (xs.length - e) = xs.length by omega, List.take_length] at this
  exact this.symm
theorem pl_nil {xs : List Int} {e : Nat} {i0 : Bool} (h : Pl xs e i0 []) : e ≤ xs.length ∧ ngc (xs.take e) = ngc xs := by
  cases h with
  | nil _ _ h1 h2 => exact ⟨h1, ngc_all h1 h2⟩
/-- What the next word is. -/
structure Next (xs : List Int) (e : Nat) (i0 : Bool) (t : List Int) (p : Nat) (f : Bool) : Prop where
  le : e ≤ p
  pos : 0 < t.length
  fits : p + t.length ≤ xs.length
  text : t = (xs.drop p).take t.length
  gap : ∀ k, e ≤ k → k < p → gapB (xs.getD k 0) = true
  first : f = (i0 || nlIn xs e p)
  cnt : ngc (xs.take (p + t.length)) = ngc (xs.take e) + t.length
theorem pl_cons {xs : List Int} {e : Nat} {i0 : Bool} {x : Wd} {ws : List Wd} (h : Pl xs e i0 (x :: ws)) : Next xs e i0 x.1 x.2.1 x.2.2 ∧ Pl xs (x.2.1 + x.1.length) false ws := by
  cases h with
  | cons _ _ t p _ h1 h2 h3 h4 h5 h6 h7 =>
    refine ⟨⟨h1, h2, h3, h4, h5, rfl, ?_⟩, h7⟩
    rw [ngc_word xs p t.length h3 h6]
    congr 1
    have := ngc_gap xs e (p - e) (by omega) (fun k h3 h4 => h5 k h3 (by omega))
    rwa [show e + (p - e) = p by omega] at this
end Go.Proofs.YtfoohdknjacenaaDoor
