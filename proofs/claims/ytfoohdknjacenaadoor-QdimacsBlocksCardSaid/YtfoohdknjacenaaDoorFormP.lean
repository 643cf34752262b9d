/- Plain facts: a formula's text as it is written, and that it is read as it was. Nothing of the program. -/
import Derived.Test.YtfoohdknjacenaaDoorBlkT
import Derived.Test.YtfoohdknjacenaaDoorBytesD
import Derived.Test.YtfoohdknjacenaaDoorLine
namespace Go.Proofs.YtfoohdknjacenaaDoor

def fTextL (v : Int) (bs : List Blk) (xss : List (List Int)) : List Int := headT v xss.length ++ (bs.flatMap (blkT [32]) ++ xss.flatMap clsT)
theorem skip32 : SkipK [32] := skipK_one (by decide)
/-- The head of a text as it is written: its words and their places. -/
theorem head_words (v n : Int) (rest : List Int) : wordsL true (headT v n ++ rest) = ([112], 0, true) :: ([99, 110, 102], 2, false) :: (itoaL v, 6, false) :: (itoaL n, 7 + (itoaL v).length, false) :: splitL true (headT v n).length true false rest := by
  have he : headT v n ++ rest = [112] ++ ([32] ++ ([99, 110, 102] ++ ([32] ++ (itoaL v ++ ([32] ++ (itoaL n ++ ([10] ++ rest))))))) := by unfold headT; simp
  have hn : (headT v n).length = 8 + (itoaL v).length + (itoaL n).length := by unfold headT; simp; omega
  have hb : ∀ k r, splitL true k false false (([32] : List Int) ++ r) = splitL true (k + 1) false false r := fun k r => splitL_blank true k false false 32 r (by decide)
  have hsp : ∀ r : List Int, ([32] ++ r = [] ∨ ∃ g r', [32] ++ r = g :: r' ∧ gapB g = true) := fun r => .inr ⟨32, r, rfl, by decide⟩
  rw [he, hn]
  unfold wordsL
  rw [split_tok (t := [112]) (by simp) (by intro x hx; simp at hx; subst hx; decide) (hsp _) _ _ (.inr (by simp)), hb]
  rw [split_tok (t := [99, 110, 102]) (by simp) (by intro x hx; simp at hx; rcases hx with rfl | rfl | rfl <;> decide) (hsp _) _ _ (.inl rfl), hb]
  rw [split_tok (t := itoaL v) (tok_itoa v).1.1 (tok_itoa v).1.2.1 (hsp _) _ _ (.inl rfl), hb]
  rw [split_tok (t := itoaL n) (tok_itoa n).1.1 (tok_itoa n).1.2.1 (rest := [10] ++ rest) (.inr ⟨10, rest, rfl, by decide⟩) _ _ (.inl rfl)]
  rw [List.singleton_append, splitL_nl]
  simp only [List.length_cons, List.length_nil]
  rw [show 0 + (0 + 1) + 1 + (0 + 1 + 1 + 1) + 1 + (itoaL v).length + 1 + (itoaL n).length + 1 = 8 + (itoaL v).length + (itoaL n).length by omega, show 0 + (0 + 1) + 1 + (0 + 1 + 1 + 1) + 1 + (itoaL v).length + 1 = 7 + (itoaL v).length by omega]
/-- Words that tell numbers begin no block. -/
theorem isBlk_num {x : Wd} {n : Int} (h : numL x.1 = some n) : isBlk x = false := by
  cases hb : isBlk x with
  | false => rfl
  | true =>
    unfold isBlk at hb
    simp at hb
    rcases hb.2 with e | e
    · rw [e, show numL [97] = none by decide] at h; cases h
    · rw [e, show numL [101] = none by decide] at h; cases h
theorem blkS_stop (vars : Int) (k : Nat) (W : List Wd) (met : List Int) (done : List Blk) (h : ∀ x r, W = x :: r → ∃ n, numL x.1 = some n) : blkS vars k W met done none = (done, k, .ok) := by
  cases W with
  | nil => rw [blkS]
  | cons x r =>
    obtain ⟨n, hn⟩ := h x r rfl
    rw [blkS, if_neg (by rw [isBlk_num hn]; simp)]
theorem line_words2 (xss : List (List Int)) (k : Nat) (f : Bool) : (splitL true k f false (xss.flatMap clsT)).map (·.1) = toksC xss := by
  rw [clsT_toks]
  have := toks_split [] (.inl rfl) (xss.flatMap (fun c => c.map (fun l => (itoaL l, ([32] : List Int))) ++ [([48], [10])])) (fun p hp => by
    obtain ⟨c, _, hc⟩ := List.mem_flatMap.1 hp
    rw [List.mem_append] at hc
    rcases hc with hc | hc
    · obtain ⟨l, _, rfl⟩ := List.mem_map.1 hc
      exact ⟨(tok_itoa l).1, skip_one (by decide)⟩
    · have e : p = ([48], [10]) := by simpa using hc
      subst e
      exact ⟨tok0, skip_one (by decide)⟩) k f
  rw [List.append_nil] at this
  rw [this, if_pos rfl, List.append_nil]
  unfold toksC
  rw [List.map_flatMap]
  congr 1
  funext c
  simp
theorem numC_some (xss : List (List Int)) : ∀ y ∈ numC xss, ∃ n, y = some n := fun y hy => by
  unfold numC at hy
  obtain ⟨c, _, hc⟩ := List.mem_flatMap.1 hy
  rw [List.mem_append] at hc
  rcases hc with hc | hc
  · obtain ⟨l, _, rfl⟩ := List.mem_map.1 hc
    exact ⟨_, rfl⟩
  · exact ⟨0, by simpa using hc⟩
theorem fText_read (v : Int) (bs : List Blk) (xss : List (List Int)) (m : List Int) (hv0 : 0 ≤ v) (hv1 : v ≤ 4000) (hn1 : xss.length ≤ 20000) (hb : blksOk v [] bs = some m) (hc : ∀ c ∈ xss, ∀ l ∈ c, l ≠ 0 ∧ isF l v = true) : ∃ ws, readFL (fTextL v bs xss) = (v, bs, xss, ws, .ok) := by
  obtain ⟨pre, h1, h2⟩ := blks_words [32] skip32 bs (fun b hb' x hx => by have := (blksOk_met v bs [] m hb).2 b hb' x hx; omega) (headT v xss.length).length
  have hw := head_words v xss.length (bs.flatMap (blkT [32]) ++ xss.flatMap clsT)
  rw [h1] at hw
  have hnum : numsW (splitL true ((headT v xss.length).length + (bs.flatMap (blkT [32])).length) true false (xss.flatMap clsT)) = numC xss := by
    rw [numsW_map, line_words2, toksC_num xss (fun c h1 l h2 => by have := (hc c h1 l h2).2; unfold isF at this; simp at this; omega)]
  generalize splitL true ((headT v xss.length).length + (bs.flatMap (blkT [32])).length) true false (xss.flatMap clsT) = W at hw hnum
  have hh := head_four_ok (k0 := 0) (k1 := 2) (k2 := 6) (k3 := 7 + (itoaL v).length) (ws := pre ++ W) hv0 hv1 (show (0 : Int) ≤ xss.length by omega) (by omega)
  have hd : (([112], 0, true) :: ([99, 110, 102], 2, false) :: (itoaL v, 6, false) :: (itoaL xss.length, 7 + (itoaL v).length, false) :: (pre ++ W) : List Wd).drop 4 = pre ++ W := rfl
  have hB : blkS v 0 (pre ++ W) [] [] none = (bs, pre.length, .ok) := by
    rw [blkS_is v bs pre [] m [] 0 W h2 hb, blkS_stop v _ W _ _ (fun x r e => by
      subst e
      obtain ⟨n, hn⟩ := numC_some xss (numL x.1) (by rw [← hnum]; simp [numsW])
      exact ⟨n, hn⟩)]
    simp
  unfold readFL fTextL
  rw [hw, hh, hd]
  dsimp only
  rw [hB]
  dsimp only
  rw [List.drop_left, cl_full v xss W 0 hc hnum]
  exact ⟨_, rfl⟩
/-- The head is the text's first line. -/
theorem itoaL_no10 (i : Int) : ∀ x ∈ itoaL i, x ≠ 10 := fun x hx e => by
  have := (tok_itoa i).1.2.1 x hx
  rw [e] at this
  revert this
  decide
theorem nlAt_app : ∀ (xs : List Int), (∀ x ∈ xs, x ≠ 10) → ∀ r, nlAt (xs ++ 10 :: r) = some xs.length
  | [], _, r => by simp [nlAt]
  | x :: xs, h, r => by
    rw [List.cons_append, nlAt, if_neg (h x (by simp)), nlAt_app xs (fun y hy => h y (by simp [hy])) r]
    rfl
theorem head_line (v n : Int) (rest : List Int) : ∃ s, lineL (headT v n ++ rest) 0 = some (s, (headT v n).length) := by
  have he : headT v n ++ rest = ([112, 32, 99, 110, 102, 32] ++ itoaL v ++ [32] ++ itoaL n) ++ 10 :: rest := by unfold headT; simp
  have hn : (headT v n).length = ([112, 32, 99, 110, 102, 32] ++ itoaL v ++ [32] ++ itoaL n).length + 1 := by unfold headT; simp only [List.length_append, List.length_cons, List.length_nil]
  have h10 : ∀ x ∈ [112, 32, 99, 110, 102, 32] ++ itoaL v ++ [32] ++ itoaL n, x ≠ 10 := fun x hx => by
    simp only [List.mem_append] at hx
    rcases hx with ((hx | hx) | hx) | hx
    · simp at hx; omega
    · exact itoaL_no10 v x hx
    · simp at hx; omega
    · exact itoaL_no10 n x hx
  rw [he, hn]
  generalize [112, 32, 99, 110, 102, 32] ++ itoaL v ++ [32] ++ itoaL n = L at *
  unfold lineL
  rw [if_pos ⟨Int.le_refl _, by simp; omega⟩, show (0 : Int).toNat = 0 from rfl, List.drop_zero, nlAt_app _ h10]
  exact ⟨_, by rw [Option.map_some, Nat.zero_add]⟩
theorem fText_ins (v : Int) (bs : List Blk) (xss : List (List Int)) : (textL v xss).take (headT v xss.length).length ++ bs.flatMap (blkT [32]) ++ (textL v xss).drop (headT v xss.length).length = fTextL v bs xss := by
  unfold textL fTextL
  rw [List.take_left, List.drop_left, List.append_assoc]
theorem bts_let (e : Bool) : Bts (letL e) := by
  intro x hx
  cases e <;> simp [letL] at hx <;> omega
theorem bts_blk {G : List Int} (hG : Bts G) (b : Blk) : Bts (blkT G b) := by
  unfold blkT varsT
  refine Bts.append (Bts.append (bts_let _) (fun x hx => ?_)) (by intro x hx; simp at hx; omega)
  obtain ⟨l, _, h⟩ := List.mem_flatMap.1 hx
  exact (hG.append (bts_itoa l)) x h
theorem bts_blks {G : List Int} (hG : Bts G) (bs : List Blk) : Bts (bs.flatMap (blkT G)) := fun x hx => by
  obtain ⟨b, _, h⟩ := List.mem_flatMap.1 hx
  exact bts_blk hG b x h
theorem fTextL_bts (v : Int) (bs : List Blk) (xss : List (List Int)) : Bts (fTextL v bs xss) := by
  have h1 := textL_bts v xss
  rw [← fText_ins]
  refine Bts.append (Bts.append (fun x hx => h1 x (List.mem_of_mem_take hx)) (bts_blks (by intro x hx; simp at hx; omega) bs)) (fun x hx => h1 x (List.mem_of_mem_drop hx))
/-- As the document's own text has them. -/
theorem blkT_lits (b : Blk) : blkT [32] b = letL b.1 ++ ([32] ++ clsT b.2) := by
  have h : ∀ l : List Int, varsT [32] l ++ [32] = [32] ++ l.flatMap litT := fun l => by
    unfold varsT
    induction l with
    | nil => rfl
    | cons v l ih =>
      rw [List.flatMap_cons, List.flatMap_cons, List.append_assoc, ih]
      unfold litT
      simp
  unfold blkT clsT
  have := h b.2
  rw [show ([32, 48, 10] : List Int) = [32] ++ [48, 10] from rfl, List.append_assoc, ← List.append_assoc (varsT [32] b.2), this]
  simp
end Go.Proofs.YtfoohdknjacenaaDoor
