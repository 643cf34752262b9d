/- Plain facts: what the words of a text tell as blocks ('blkS', 'varsL'), and what is amiss first; what a text tells as a formula ('readFL'). Nothing of the program. -/
import Derived.Test.YtfoohdknjacenaaDoorReadD
namespace Go.Proofs.YtfoohdknjacenaaDoor

abbrev Blk := Bool × List Int
/-- A block begins with this word. -/
def isBlk (x : Wd) : Bool := x.2.2 && (x.1 == [97] || x.1 == [101])
def exB (x : Wd) : Bool := x.1 == [101]
/-- A variable that may stand in a block, behind those that were met. -/
def okV (vars : Int) (met : List Int) (v : Int) : Bool := decide (1 ≤ v) && (decide (v ≤ vars) && !met.contains v)
/-- The blocks from the word k on; met: the variables so far; done: the blocks so far; the one at hand. -/
def blkS (vars : Int) : Nat → List Wd → List Int → List Blk → Option Blk → List Blk × Nat × Flt
  | k, [], _, done, none => (done, k, .ok)
  | k, [], _, _, some _ => ([], 0, .text k)
  | k, x :: ws, met, done, none => if isBlk x = true then blkS vars (k + 1) ws met done (some (exB x, [])) else (done, k, .ok)
  | k, x :: ws, met, done, some c => match numL x.1 with
    | none => ([], 0, .text k)
    | some v => if v = 0 then blkS vars (k + 1) ws met (done ++ [c]) none else
      if okV vars met v = true then blkS vars (k + 1) ws (met ++ [v]) done (some (c.1, c.2 ++ [v])) else ([], 0, .text k)
/-- The variables of one block. -/
def varsL (vars : Int) : Nat → List Wd → List Int → List Int → List Int × Nat × List Int × Flt
  | k, [], met, _ => ([], 0, met, .text k)
  | k, x :: ws, met, acc => match numL x.1 with
    | none => ([], 0, met, .text k)
    | some v => if v = 0 then (acc, k + 1, met, .ok) else
      if okV vars met v = true then varsL vars (k + 1) ws (met ++ [v]) (acc ++ [v]) else ([], 0, met, .text k)
section
variable {vars : Int} {ws : List Wd} {i : Nat} {met acc : List Int} {done : List Blk} {c : Blk}
theorem vr_end (h : ws.length ≤ i) : varsL vars i (ws.drop i) met acc = ([], 0, met, .text i) := by
  rw [List.drop_eq_nil_of_le h, varsL]
theorem vr_none (h : i < ws.length) (h2 : numL (txt ws i) = none) : varsL vars i (ws.drop i) met acc = ([], 0, met, .text i) := by
  rw [drop_consW ws i h, varsL, show (ws.getD i wd0).1 = txt ws i from rfl, h2]
theorem vr_zero (h : i < ws.length) (h2 : numL (txt ws i) = some 0) : varsL vars i (ws.drop i) met acc = (acc, i + 1, met, .ok) := by
  rw [drop_consW ws i h, varsL, show (ws.getD i wd0).1 = txt ws i from rfl, h2]
  simp
theorem vr_more {v : Int} (h : i < ws.length) (h2 : numL (txt ws i) = some v) (h3 : v ≠ 0) (h4 : okV vars met v = true) : varsL vars i (ws.drop i) met acc = varsL vars (i + 1) (ws.drop (i + 1)) (met ++ [v]) (acc ++ [v]) := by
  rw [drop_consW ws i h, varsL, show (ws.getD i wd0).1 = txt ws i from rfl, h2]
  simp [h3, h4]
theorem vr_bad {v : Int} (h : i < ws.length) (h2 : numL (txt ws i) = some v) (h3 : v ≠ 0) (h4 : okV vars met v = false) : varsL vars i (ws.drop i) met acc = ([], 0, met, .text i) := by
  rw [drop_consW ws i h, varsL, show (ws.getD i wd0).1 = txt ws i from rfl, h2]
  simp [h3, h4]
theorem bs_end (h : ws.length ≤ i) : blkS vars i (ws.drop i) met done none = (done, i, .ok) := by
  rw [List.drop_eq_nil_of_le h, blkS]
theorem bs_stop (h : i < ws.length) (h2 : isBlk (ws.getD i wd0) = false) : blkS vars i (ws.drop i) met done none = (done, i, .ok) := by
  rw [drop_consW ws i h, blkS, if_neg (by rw [h2]; simp)]
theorem bs_open (h : i < ws.length) (h2 : isBlk (ws.getD i wd0) = true) : blkS vars i (ws.drop i) met done none = blkS vars (i + 1) (ws.drop (i + 1)) met done (some (exB (ws.getD i wd0), [])) := by
  rw [drop_consW ws i h, blkS, if_pos h2]
theorem bi_end (h : ws.length ≤ i) : blkS vars i (ws.drop i) met done (some c) = ([], 0, .text i) := by
  rw [List.drop_eq_nil_of_le h, blkS]
theorem bi_none (h : i < ws.length) (h2 : numL (txt ws i) = none) : blkS vars i (ws.drop i) met done (some c) = ([], 0, .text i) := by
  rw [drop_consW ws i h, blkS, show (ws.getD i wd0).1 = txt ws i from rfl, h2]
theorem bi_zero (h : i < ws.length) (h2 : numL (txt ws i) = some 0) : blkS vars i (ws.drop i) met done (some c) = blkS vars (i + 1) (ws.drop (i + 1)) met (done ++ [c]) none := by
  rw [drop_consW ws i h, blkS, show (ws.getD i wd0).1 = txt ws i from rfl, h2]
  simp
theorem bi_more {v : Int} (h : i < ws.length) (h2 : numL (txt ws i) = some v) (h3 : v ≠ 0) (h4 : okV vars met v = true) : blkS vars i (ws.drop i) met done (some c) = blkS vars (i + 1) (ws.drop (i + 1)) (met ++ [v]) done (some (c.1, c.2 ++ [v])) := by
  rw [drop_consW ws i h, blkS, show (ws.getD i wd0).1 = txt ws i from rfl, h2]
  simp [h3, h4]
theorem bi_bad {v : Int} (h : i < ws.length) (h2 : numL (txt ws i) = some v) (h3 : v ≠ 0) (h4 : okV vars met v = false) : blkS vars i (ws.drop i) met done (some c) = ([], 0, .text i) := by
  rw [drop_consW ws i h, blkS, show (ws.getD i wd0).1 = txt ws i from rfl, h2]
  simp [h3, h4]
end
/-- A block is its variables, whatever way it is read. -/
theorem blk_vars (vars : Int) (b : Nat) (done : List Blk) (e : Bool) : ∀ (ws : List Wd) (k : Nat) (met acc : List Int),
    ((varsL vars k ws met acc).2.2.2.isOk = true → k < (varsL vars k ws met acc).2.1 ∧ (varsL vars k ws met acc).2.1 ≤ k + ws.length ∧ (varsL vars k ws met acc).1.length ≤ acc.length + ws.length ∧
      blkS vars (b + k) ws met done (some (e, acc)) = blkS vars (b + (varsL vars k ws met acc).2.1) (ws.drop ((varsL vars k ws met acc).2.1 - k)) (varsL vars k ws met acc).2.2.1 (done ++ [(e, (varsL vars k ws met acc).1)]) none) ∧
    ((varsL vars k ws met acc).2.2.2.isOk = false → ∃ i, (varsL vars k ws met acc).2.2.2 = .text i ∧ blkS vars (b + k) ws met done (some (e, acc)) = ([], 0, .text (b + i)))
  | [], k, met, acc => by
    rw [varsL, blkS]
    exact ⟨fun h => by simp [Flt.isOk] at h, fun _ => ⟨k, rfl, rfl⟩⟩
  | x :: ws, k, met, acc => by
    rw [varsL, blkS]
    cases hn : numL x.1 with
    | none => exact ⟨fun h => by simp [Flt.isOk] at h, fun _ => ⟨k, rfl, rfl⟩⟩
    | some v =>
      simp only
      by_cases h0 : v = 0
      · rw [if_pos h0, if_pos h0]
        refine ⟨fun _ => ⟨by simp, by simp, by simp, ?_⟩, fun h => by simp [Flt.isOk] at h⟩
        simp only [Nat.add_sub_cancel_left, List.drop_succ_cons, List.drop_zero]
        rfl
      · rw [if_neg h0, if_neg h0]
        by_cases h1 : okV vars met v = true
        · rw [if_pos h1, if_pos h1]
          obtain ⟨ih1, ih2⟩ := blk_vars vars b done e ws (k + 1) (met ++ [v]) (acc ++ [v])
          refine ⟨fun h => ?_, fun h => ?_⟩
          · obtain ⟨a1, a2, a3, a4⟩ := ih1 h
            refine ⟨by omega, by simp; omega, by simp at a3 ⊢; omega, ?_⟩
            rw [show b + k + 1 = b + (k + 1) by omega, a4]
            congr 1
            rw [show (varsL vars (k + 1) ws (met ++ [v]) (acc ++ [v])).2.1 - k = (varsL vars (k + 1) ws (met ++ [v]) (acc ++ [v])).2.1 - (k + 1) + 1 by omega, List.drop_succ_cons]
          · obtain ⟨i, a1, a2⟩ := ih2 h
            exact ⟨i, a1, by rw [show b + k + 1 = b + (k + 1) by omega, a2]⟩
        · rw [if_neg h1, if_neg h1]
          exact ⟨fun h => by simp [Flt.isOk] at h, fun _ => ⟨k, rfl, rfl⟩⟩
theorem vr_fault {vars : Int} {ws : List Wd} {k : Nat} {met acc : List Int} (h : (varsL vars k ws met acc).2.2.2.isOk = false) : ∃ i, (varsL vars k ws met acc).2.2.2 = .text i := by
  obtain ⟨i, h1, _⟩ := (blk_vars vars 0 [] false ws k met acc).2 h
  exact ⟨i, h1⟩
/-- One block, from the word that it begins with. -/
theorem bs_block {vars : Int} {ws : List Wd} {k : Nat} {met : List Int} {done : List Blk} (h : k < ws.length) (h2 : isBlk (ws.getD k wd0) = true) :
    ((varsL vars 0 (ws.drop (k + 1)) met []).2.2.2.isOk = true → k + 1 + (varsL vars 0 (ws.drop (k + 1)) met []).2.1 ≤ ws.length ∧ (varsL vars 0 (ws.drop (k + 1)) met []).1.length ≤ ws.length ∧
      blkS vars k (ws.drop k) met done none = blkS vars (k + 1 + (varsL vars 0 (ws.drop (k + 1)) met []).2.1) (ws.drop (k + 1 + (varsL vars 0 (ws.drop (k + 1)) met []).2.1)) (varsL vars 0 (ws.drop (k + 1)) met []).2.2.1 (done ++ [(exB (ws.getD k wd0), (varsL vars 0 (ws.drop (k + 1)) met []).1)]) none) ∧
    (∀ i, (varsL vars 0 (ws.drop (k + 1)) met []).2.2.2 = .text i → blkS vars k (ws.drop k) met done none = ([], 0, .text (k + 1 + i))) := by
  obtain ⟨a1, a2⟩ := blk_vars vars (k + 1) done (exB (ws.getD k wd0)) (ws.drop (k + 1)) 0 met []
  rw [bs_open h h2]
  refine ⟨fun hk => ?_, fun i hi => ?_⟩
  · obtain ⟨b1, b2, b3, b4⟩ := a1 hk
    rw [List.length_drop] at b2 b3
    refine ⟨by omega, by simp at b3; omega, ?_⟩
    rw [Nat.add_zero] at b4
    rw [b4, Nat.sub_zero, List.drop_drop]
  · obtain ⟨j, b1, b2⟩ := a2 (by rw [hi]; rfl)
    rw [hi] at b1
    injection b1 with b1
    subst b1
    rw [Nat.add_zero] at b2
    exact b2
/-- The blocks are no more than the words, the rest begins among these. -/
theorem bs_bd (vars : Int) : ∀ (ws : List Wd) (k : Nat) (met : List Int) (done : List Blk) (c : Option Blk), (blkS vars k ws met done c).2.2.isOk = true → k ≤ (blkS vars k ws met done c).2.1 ∧ (blkS vars k ws met done c).2.1 ≤ k + ws.length
  | [], k, met, done, none => fun _ => by rw [blkS]; simp
  | [], k, met, done, some c => fun h => by rw [blkS] at h; simp [Flt.isOk] at h
  | x :: ws, k, met, done, none => fun h => by
    rw [blkS] at h ⊢
    split at h
    · rename_i hb
      rw [if_pos hb]
      have := bs_bd vars ws (k + 1) met done _ h
      simp; omega
    · rename_i hb
      rw [if_neg hb]
      simp
  | x :: ws, k, met, done, some c => fun h => by
    rw [blkS] at h ⊢
    cases hn : numL x.1 with
    | none => rw [hn] at h; simp [Flt.isOk] at h
    | some v =>
      rw [hn] at h
      simp only at h ⊢
      split at h
      · rename_i h0
        rw [if_pos h0]
        have := bs_bd vars ws (k + 1) _ _ _ h
        simp; omega
      · rename_i h0
        rw [if_neg h0]
        split at h
        · rename_i h1
          rw [if_pos h1]
          have := bs_bd vars ws (k + 1) _ _ _ h
          simp; omega
        · simp [Flt.isOk] at h
theorem posL_drop (ws : List Wd) (k i : Nat) (e : Int) : posL (ws.drop k) i e = posL ws (k + i) e := by
  unfold posL
  rw [List.length_drop]
  by_cases h : k + i < ws.length
  · rw [if_pos (by omega), if_pos h]
    simp [List.getD]
  · rw [if_neg (by omega), if_neg h]

/-- What a text tells as a formula: variables, blocks, clauses; the words that the fault speaks of, the fault. -/
def readFL (xs : List Int) : Int × List Blk × List (List Int) × List Wd × Flt :=
  if (headL (wordsL true xs)).2.2.isOk = true then
    if (blkS (headL (wordsL true xs)).1 0 ((wordsL true xs).drop 4) [] [] none).2.2.isOk = true then
      if (clausesL (headL (wordsL true xs)).1 (headL (wordsL true xs)).2.1 0 (((wordsL true xs).drop 4).drop (blkS (headL (wordsL true xs)).1 0 ((wordsL true xs).drop 4) [] [] none).2.1) [] []).2.isOk = true then
        ((headL (wordsL true xs)).1, (blkS (headL (wordsL true xs)).1 0 ((wordsL true xs).drop 4) [] [] none).1, (clausesL (headL (wordsL true xs)).1 (headL (wordsL true xs)).2.1 0 (((wordsL true xs).drop 4).drop (blkS (headL (wordsL true xs)).1 0 ((wordsL true xs).drop 4) [] [] none).2.1) [] []).1, [], .ok)
      else (0, [], [], ((wordsL true xs).drop 4).drop (blkS (headL (wordsL true xs)).1 0 ((wordsL true xs).drop 4) [] [] none).2.1, (clausesL (headL (wordsL true xs)).1 (headL (wordsL true xs)).2.1 0 (((wordsL true xs).drop 4).drop (blkS (headL (wordsL true xs)).1 0 ((wordsL true xs).drop 4) [] [] none).2.1) [] []).2)
    else (0, [], [], (wordsL true xs).drop 4, (blkS (headL (wordsL true xs)).1 0 ((wordsL true xs).drop 4) [] [] none).2.2)
  else (0, [], [], wordsL true xs, (headL (wordsL true xs)).2.2)
end Go.Proofs.YtfoohdknjacenaaDoor
