/- Plain facts: blocks merged ('mergeL': those without variables left out, neighbours of one kind as one): none is empty, neighbours are unlike, all variables stay in order, merged again they are the same. Nothing of the program. -/
import Derived.Test.YtcodmijphejfdaaDoorBlkM
namespace Go.Proofs.YtcodmijphejfdaaDoor

def lastB (out : List Blk) : Blk := out.getD (out.length - 1) blk0
def mergeStep (out : List Blk) (b : Blk) : List Blk :=
  if b.2.length = 0 then out
  else if 0 < out.length ∧ (lastB out).1 = b.1 then out.set (out.length - 1) (b.1, (lastB out).2 ++ b.2)
  else out ++ [b]
def mergeL (bs : List Blk) : List Blk := bs.foldl mergeStep []
def varsB (bs : List Blk) : List Int := bs.flatMap (·.2)
theorem merge_snoc (bs : List Blk) (b : Blk) : mergeL (bs ++ [b]) = mergeStep (mergeL bs) b := by simp [mergeL]
theorem takeB (bs : List Blk) (k : Nat) (h : k < bs.length) : bs.take (k + 1) = bs.take k ++ [bs.getD k blk0] := by
  rw [List.take_succ_eq_append_getElem h]; simp [List.getD, h]
theorem merge_take (bs : List Blk) (k : Nat) (h : k < bs.length) : mergeL (bs.take (k + 1)) = mergeStep (mergeL (bs.take k)) (bs.getD k blk0) := by
  rw [takeB bs k h, merge_snoc]
theorem varsB_take (bs : List Blk) (k : Nat) (h : k < bs.length) : varsB (bs.take (k + 1)) = varsB (bs.take k) ++ (bs.getD k blk0).2 := by
  rw [takeB bs k h]; simp [varsB]
theorem varsB_snoc (bs : List Blk) (b : Blk) : varsB (bs ++ [b]) = varsB bs ++ b.2 := by simp [varsB]

structure Alt (out : List Blk) : Prop where
  full : ∀ i, i < out.length → (out.getD i blk0).2.length ≠ 0
  unlike : ∀ i, 0 < i → i < out.length → (out.getD i blk0).1 ≠ (out.getD (i - 1) blk0).1
theorem step_zero (out : List Blk) (b : Blk) (h : b.2.length = 0) : mergeStep out b = out := by unfold mergeStep; rw [if_pos h]
theorem step_join (init : List Blk) (x b : Blk) (h : b.2.length ≠ 0) (hk : x.1 = b.1) : mergeStep (init ++ [x]) b = init ++ [(b.1, x.2 ++ b.2)] := by
  unfold mergeStep
  have hl : lastB (init ++ [x]) = x := by simp [lastB, List.getD]
  rw [if_neg h, hl, if_pos ⟨by simp, hk⟩]
  simp
theorem step_new (out : List Blk) (b : Blk) (h : b.2.length ≠ 0) (hk : 0 < out.length → (lastB out).1 ≠ b.1) : mergeStep out b = out ++ [b] := by
  unfold mergeStep
  rw [if_neg h, if_neg fun hh => hk hh.1 hh.2]
theorem snocB (out : List Blk) (h : 0 < out.length) : ∃ init x, out = init ++ [x] :=
  ⟨out.dropLast, out.getLast (by intro e; subst e; simp at h), (List.dropLast_concat_getLast _).symm⟩
theorem getD_snoc (init : List Blk) (x : Blk) (i : Nat) : (init ++ [x]).getD i blk0 = if i < init.length then init.getD i blk0 else if i = init.length then x else blk0 := by
  by_cases h : i < init.length
  · rw [if_pos h]; simp [List.getD, List.getElem?_append_left h]
  · rw [if_neg h]
    by_cases e : i = init.length
    · subst e; simp [List.getD]
    · rw [if_neg e]
      have : (init ++ [x]).length ≤ i := by simp; omega
      simp [List.getD, List.getElem?_eq_none this]
theorem alt_nil : Alt [] := ⟨fun _ h => absurd h (Nat.not_lt_zero _), fun _ _ h => absurd h (Nat.not_lt_zero _)⟩
/-- One block more. -/
theorem alt_step (out : List Blk) (b : Blk) (ha : Alt out) : Alt (mergeStep out b) ∧ varsB (mergeStep out b) = varsB out ++ b.2 ∧ (mergeStep out b).length ≤ out.length + 1 := by
  by_cases h0 : b.2.length = 0
  · rw [step_zero out b h0]
    exact ⟨ha, by rw [List.eq_nil_of_length_eq_zero h0, List.append_nil], by omega⟩
  · by_cases hj : 0 < out.length ∧ (lastB out).1 = b.1
    · obtain ⟨init, x, rfl⟩ := snocB out hj.1
      have hl : lastB (init ++ [x]) = x := by simp [lastB, List.getD]
      have hk := hj.2
      rw [hl] at hk
      rw [step_join init x b h0 hk]
      refine ⟨⟨fun i hi => ?_, fun i h1 hi => ?_⟩, by simp [varsB], by simp⟩
      · have := ha.full i (by simpa using hi)
        rw [getD_snoc] at this ⊢
        by_cases h : i < init.length
        · rw [if_pos h] at this ⊢; exact this
        · have e : i = init.length := by simp at hi; omega
          rw [if_neg h, if_pos e]
          simp; intro hx; have := h0; simpa using this
      · have := ha.unlike i h1 (by simpa using hi)
        rw [getD_snoc, getD_snoc] at this ⊢
        have h2 : i - 1 < init.length := by simp at hi; omega
        rw [if_pos h2] at this ⊢
        by_cases h : i < init.length
        · rw [if_pos h] at this ⊢; exact this
        · have e : i = init.length := by simp at hi; omega
          rw [if_neg h, if_pos e] at this ⊢
          show b.1 ≠ _
          rw [← hk]; exact this
    · have hk : 0 < out.length → (lastB out).1 ≠ b.1 := fun h1 h2 => hj ⟨h1, h2⟩
      rw [step_new out b h0 hk]
      refine ⟨⟨fun i hi => ?_, fun i h1 hi => ?_⟩, varsB_snoc out b, by simp⟩
      · rw [getD_snoc]
        by_cases h : i < out.length
        · rw [if_pos h]; exact ha.full i h
        · have e : i = out.length := by simp at hi; omega
          rw [if_neg h, if_pos e]; exact h0
      · rw [getD_snoc, getD_snoc]
        have h2 : i - 1 < out.length := by simp at hi; omega
        rw [if_pos h2]
        by_cases h : i < out.length
        · rw [if_pos h]; exact ha.unlike i h1 h
        · have e : i = out.length := by simp at hi; omega
          rw [if_neg h, if_pos e]
          subst e
          exact fun e' => hk (by omega) e'.symm
theorem merge_all (bs : List Blk) : ∀ k, k ≤ bs.length → Alt (mergeL (bs.take k)) ∧ varsB (mergeL (bs.take k)) = varsB (bs.take k) ∧ (mergeL (bs.take k)).length ≤ k
  | 0, _ => ⟨alt_nil, rfl, Nat.le_refl _⟩
  | k + 1, h => by
    obtain ⟨h1, h2, h3⟩ := merge_all bs k (by omega)
    obtain ⟨g1, g2, g3⟩ := alt_step (mergeL (bs.take k)) (bs.getD k blk0) h1
    rw [merge_take bs k (by omega)]
    exact ⟨g1, by rw [g2, h2, varsB_take bs k (by omega)], by omega⟩
theorem merge_whole (bs : List Blk) : Alt (mergeL bs) ∧ varsB (mergeL bs) = varsB bs ∧ (mergeL bs).length ≤ bs.length := by
  have := merge_all bs bs.length (Nat.le_refl _)
  rwa [List.take_length] at this
theorem merge_alt {m : List Blk} (ha : Alt m) : ∀ k, k ≤ m.length → mergeL (m.take k) = m.take k
  | 0, _ => rfl
  | k + 1, h => by
    rw [merge_take m k (by omega), merge_alt ha k (by omega), takeB m k (by omega)]
    refine step_new _ _ (ha.full k (by omega)) fun h1 => ?_
    have h1' : 0 < k := by simp at h1; omega
    have hl : lastB (m.take k) = m.getD (k - 1) blk0 := by
      unfold lastB
      rw [List.length_take, Nat.min_eq_left (by omega)]
      simp [List.getD, show k - 1 < k by omega]
    rw [hl]
    exact fun e => ha.unlike k h1' (by omega) e.symm
/-- Merged again the same. -/
theorem merge_twice (bs : List Blk) : mergeL (mergeL bs) = mergeL bs := by
  have := merge_alt (merge_whole bs).1 (mergeL bs).length (Nat.le_refl _)
  rwa [List.take_length] at this
/-- A block's variables are no more than all. -/
theorem varsB_len (bs : List Blk) (i : Nat) : (bs.getD i blk0).2.length ≤ (varsB bs).length := by
  by_cases h : i < bs.length
  · have e : bs = bs.take i ++ bs.getD i blk0 :: bs.drop (i + 1) := by
      rw [show bs.getD i blk0 = bs[i] by simp [List.getD, h], ← List.drop_eq_getElem_cons h, List.take_append_drop]
    rw [e]
    generalize hb : bs.getD i blk0 = b
    have : ((bs.take i ++ b :: bs.drop (i + 1)).getD i blk0) = b := by
      simp [List.getD, show min i bs.length = i by omega]
    rw [this]
    simp [varsB]; omega
  · have : bs.getD i blk0 = blk0 := by simp [List.getD, List.getElem?_eq_none (Nat.le_of_not_lt h)]
    rw [this]; exact Nat.zero_le _
theorem mem_varsB (bs : List Blk) (v : Int) : v ∈ varsB bs ↔ ∃ i, i < bs.length ∧ v ∈ (bs.getD i blk0).2 := by
  unfold varsB
  rw [List.mem_flatMap]
  constructor
  · rintro ⟨b, hb, hv⟩
    obtain ⟨i, hi, rfl⟩ := List.getElem_of_mem hb
    exact ⟨i, hi, by simpa [List.getD, hi] using hv⟩
  · rintro ⟨i, hi, hv⟩
    exact ⟨bs[i], List.getElem_mem hi, by simpa [List.getD, hi] using hv⟩
end Go.Proofs.YtcodmijphejfdaaDoor
