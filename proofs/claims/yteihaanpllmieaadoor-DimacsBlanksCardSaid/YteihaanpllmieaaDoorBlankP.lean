/- Plain facts: a text whose gaps are other ones ('blk'): what it tells; with words behind it; without its last byte. Nothing of the program. -/
import Derived.Test.YteihaanpllmieaaDoorTextQ
namespace Go.Proofs.YteihaanpllmieaaDoor

def gapS (q : Nat) : List Int := if q = 0 then [32] else if q = 1 then [10] else if q = 2 then [9, 32] else if q = 3 then [10, 99, 32, 97, 110, 121, 32, 119, 111, 114, 100, 32, 48, 10] else [13, 10]
theorem skip_note : SkipA [10, 99, 32, 97, 110, 121, 32, 119, 111, 114, 100, 32, 48, 10] := by
  refine ⟨⟨10, _, rfl, by decide⟩, fun k f rest => ?_⟩
  have e1 : splitL true k f false ([10, 99, 32, 97, 110, 121, 32, 119, 111, 114, 100, 32, 48, 10] ++ rest) = splitL true (k + 1) true false (99 :: ([32, 97, 110, 121, 32, 119, 111, 114, 100, 32, 48, 10] ++ rest)) := splitL_nl true k f false _
  have hd : ([32, 97, 110, 121, 32, 119, 111, 114, 100, 32, 48, 10] ++ rest).dropWhile inW = [32, 97, 110, 121, 32, 119, 111, 114, 100, 32, 48, 10] ++ rest := by
    rw [List.cons_append, List.dropWhile_cons_of_neg (by decide)]
  rw [e1, splitL_word true (k + 1) true false 99 _ (by decide), hd]
  simp only [Bool.false_or, Bool.true_and, beq_self_eq_true, if_true, List.nil_append]
  rw [splitL_skip true _ ([32, 97, 110, 121, 32, 119, 111, 114, 100, 32, 48, 10] ++ rest) (Nat.le_refl _) _ false 11 (by simp) (fun i hi => by
    match i, hi with
    | 0, _ => simp
    | 1, _ => simp
    | 2, _ => simp
    | 3, _ => simp
    | 4, _ => simp
    | 5, _ => simp
    | 6, _ => simp
    | 7, _ => simp
    | 8, _ => simp
    | 9, _ => simp
    | 10, _ => simp) (.inr (by simp))]
  have e2 : ([32, 97, 110, 121, 32, 119, 111, 114, 100, 32, 48, 10] ++ rest).drop 11 = 10 :: rest := rfl
  rw [e2, splitL_nl]
  exact ⟨_, true, rfl, fun _ => rfl⟩
theorem skip_gapS (q : Nat) : SkipA (gapS q) := by
  unfold gapS
  split
  · exact skip_one (by decide)
  · split
    · exact skip_one (by decide)
    · split
      · exact skip_app (skip_one (g := 9) (by decide)) (skip_one (g := 32) (by decide))
      · split
        · exact skip_note
        · exact skip_app (skip_one (g := 13) (by decide)) (skip_one (g := 10) (by decide))
theorem gapS_len (q : Nat) : (gapS q).length ≤ 14 := by unfold gapS; split; simp; split; simp; split; simp; split <;> simp
theorem gapS_bts (q : Nat) : Bts (gapS q) := by
  unfold gapS
  split
  · intro x hx; simp at hx; omega
  · split
    · intro x hx; simp at hx; omega
    · split
      · intro x hx; simp at hx; omega
      · split
        · intro x hx; simp at hx; omega
        · intro x hx; simp at hx; omega
/-- The gap ahead of the word i. -/
def gp (q : Nat → Nat) (i : Nat) : List Int := if 0 < i ∧ i < 4 then [32] else if i = 4 then gapS (q i) ++ [10] else gapS (q i)
theorem gp_skip (q : Nat → Nat) (i : Nat) : SkipA (gp q i) := by
  unfold gp
  split
  · exact skip_one (by decide)
  · split
    · exact skip_app (skip_gapS _) (skip_one (by decide))
    · exact skip_gapS _
theorem gp_len (q : Nat → Nat) (i : Nat) : (gp q i).length ≤ 15 := by
  have := gapS_len (q i)
  unfold gp
  split
  · simp
  · split
    · simp; omega
    · omega
theorem gp_bts (q : Nat → Nat) (i : Nat) : Bts (gp q i) := by
  unfold gp
  split
  · intro x hx; simp at hx; omega
  · split
    · exact (gapS_bts _).append (by intro x hx; simp at hx; omega)
    · exact gapS_bts _
def blk (g : Nat → List Int) : Nat → List (List Int) → List Int
  | _, [] => []
  | i, t :: T => g i ++ (t ++ blk g (i + 1) T)
theorem blk_app (g : Nat → List Int) : ∀ (T U : List (List Int)) (i : Nat), blk g i (T ++ U) = blk g i T ++ blk g (i + T.length) U
  | [], U, i => rfl
  | t :: T, U, i => by
    rw [List.cons_append, blk, blk, blk_app g T U (i + 1), List.length_cons, List.append_assoc, List.append_assoc, show i + 1 + T.length = i + (T.length + 1) by omega]
theorem blk_step (g : Nat → List Int) (T : List (List Int)) (k : Nat) (h : k < T.length) : blk g 0 (T.take (k + 1)) = blk g 0 (T.take k) ++ g k ++ T.getD k [] := by
  rw [List.take_succ_eq_append_getElem h, blk_app, List.length_take, Nat.min_eq_left (by omega), Nat.zero_add]
  simp [blk, List.getD, h]
theorem blk_len (g : Nat → List Int) (hg : ∀ i, (g i).length ≤ 15) : ∀ (T : List (List Int)) (i : Nat), (∀ t ∈ T, t.length ≤ 4) → (blk g i T).length ≤ 19 * T.length
  | [], _, _ => by simp [blk]
  | t :: T, i, h => by
    have h1 := blk_len g hg T (i + 1) (fun u hu => h u (by simp [hu]))
    have h2 := h t (by simp)
    have h3 := hg i
    rw [blk, List.length_append, List.length_append, List.length_cons]
    omega
theorem blk_bts (g : Nat → List Int) (hg : ∀ i, Bts (g i)) : ∀ (T : List (List Int)) (i : Nat), (∀ t ∈ T, Bts t) → Bts (blk g i T)
  | [], _, _ => Bts.nil
  | t :: T, i, h => (hg i).append ((h t (by simp)).append (blk_bts g hg T (i + 1) (fun u hu => h u (by simp [hu]))))
theorem blk_gapped (g : Nat → List Int) (hg : ∀ i, SkipA (g i)) (T : List (List Int)) (i : Nat) (E : List Int) (hE : Gapped E) : Gapped (blk g i T ++ E) := by
  cases T with
  | nil => exact hE
  | cons t T =>
    rw [blk, List.append_assoc]
    exact (hg i).gapped _
theorem blk_words (g : Nat → List Int) (hg : ∀ i, SkipA (g i)) (E : List Int) (hE : Gapped E) : ∀ (T : List (List Int)) (i k : Nat) (f : Bool), (∀ t ∈ T, Tok t) → ∃ W k' f', splitL true k f false (blk g i T ++ E) = W ++ splitL true k' f' false E ∧ W.map (·.1) = T
  | [], i, k, f, _ => ⟨[], k, f, rfl, rfl⟩
  | t :: T, i, k, f, h => by
    have ht := h t (by simp)
    obtain ⟨k1, f1, e1, _⟩ := (hg i).2 k f (t ++ (blk g (i + 1) T ++ E))
    obtain ⟨W, k2, f2, e2, hW⟩ := blk_words g hg E hE T (i + 1) (k1 + t.length) false (fun u hu => h u (by simp [hu]))
    refine ⟨(t, k1, f1) :: W, k2, f2, ?_, by simp [hW]⟩
    rw [blk, List.append_assoc, List.append_assoc, e1, split_tok ht.1 ht.2.1 (blk_gapped g hg T (i + 1) E hE) k1 f1 (.inr ht.2.2), e2]
    rfl
def wordsT (v : Int) (xss : List (List Int)) : List (List Int) := [112] :: [99, 110, 102] :: itoaL v :: itoaL xss.length :: toksC xss
theorem blk_hd (q : Nat → Nat) (v : Int) (xss : List (List Int)) (E : List Int) : blk (gp q) 0 (wordsT v xss) ++ E = hdT (gapS (q 0)) (blk (gp q) 4 (toksC xss) ++ E) v xss.length := by
  unfold wordsT hdT
  have h0 : gp q 0 = gapS (q 0) := rfl
  have h1 : gp q 1 = [32] := rfl
  have h2 : gp q 2 = [32] := rfl
  have h3 : gp q 3 = [32] := rfl
  simp only [blk, h0, h1, h2, h3, Nat.zero_add, List.append_assoc]
theorem hc_num (v : Int) (xss : List (List Int)) (hv0 : 0 ≤ v) (hv1 : v ≤ 4000) (hc : ∀ c ∈ xss, ∀ l ∈ c, l ≠ 0 ∧ isF l v = true) : (toksC xss).map numL = numC xss := toksC_num xss (fun c h1 l h2 => by have := (hc c h1 l h2).2; unfold isF at this; simp at this; omega)
theorem blank_ok (q : Nat → Nat) (v : Int) (xss : List (List Int)) (hv0 : 0 ≤ v) (hv1 : v ≤ 4000) (hn1 : xss.length ≤ 20000) (hc : ∀ c ∈ xss, ∀ l ∈ c, l ≠ 0 ∧ isF l v = true) : ∃ ws, readL (blk (gp q) 0 (wordsT v xss)) = (v, xss, ws, .ok) := by
  have e := blk_hd q v xss []
  rw [List.append_nil] at e
  rw [e]
  refine readT_ok _ _ v xss (.inr (skip_gapS _)) (blk_gapped _ (gp_skip q) _ _ _ (.inl rfl)) hv0 hv1 hn1 hc fun k => ?_
  obtain ⟨W, k', f', e1, hW⟩ := blk_words (gp q) (gp_skip q) [] (.inl rfl) (toksC xss) 4 k false (toksC_tok xss)
  rw [e1, splitL_nil, List.append_nil, numsW_map, hW]
  exact hc_num v xss hv0 hv1 hc
theorem blank_more (q : Nat → Nat) (v : Int) (xss : List (List Int)) (hv0 : 0 ≤ v) (hv1 : v ≤ 4000) (hn1 : xss.length ≤ 20000) (hc : ∀ c ∈ xss, ∀ l ∈ c, l ≠ 0 ∧ isF l v = true) : (readL (blk (gp q) 0 (wordsT v xss) ++ [32, 49, 32, 48])).2.2.2.isOk = false := by
  rw [blk_hd q v xss]
  refine readT_bad _ _ v xss (.inr (skip_gapS _)) (blk_gapped _ (gp_skip q) _ _ _ (.inr ⟨32, _, rfl, by decide⟩)) hv0 hv1 hn1 hc fun k => .inl ⟨[some 1, some 0], by simp, ?_⟩
  obtain ⟨W, k', f', e1, hW⟩ := blk_words (gp q) (gp_skip q) [32, 49, 32, 48] (.inr ⟨32, _, rfl, by decide⟩) (toksC xss) 4 k false (toksC_tok xss)
  have e2 := toks_split [48] (.inr tok0) [([49], [32])] (fun p hp => by
    have e : p = ([49], [32]) := by simpa using hp
    subst e
    exact ⟨⟨by simp, by intro x hx; simp at hx; subst hx; decide, by simp⟩, skip_one (by decide)⟩) (k' + 1) f'
  rw [e1, numsW_map, List.map_append, hW, List.map_append, hc_num v xss hv0 hv1 hc]
  congr 1
  rw [splitL_blank true k' f' false 32 [49, 32, 48] (by decide)]
  have e3 : ([([49], [32])] : List (List Int × List Int)).flatMap (fun p => p.1 ++ p.2) ++ [48] = [49, 32, 48] := rfl
  rw [e3] at e2
  rw [e2]
  decide
theorem blank_less (q : Nat → Nat) (v : Int) (xss : List (List Int)) (hv0 : 0 ≤ v) (hv1 : v ≤ 4000) (hn1 : xss.length ≤ 20000) (hc : ∀ c ∈ xss, ∀ l ∈ c, l ≠ 0 ∧ isF l v = true) (hne : xss ≠ []) : (readL ((blk (gp q) 0 (wordsT v xss)).take ((blk (gp q) 0 (wordsT v xss)).length - 1))).2.2.2.isOk = false := by
  obtain ⟨yss, c, rfl⟩ : ∃ yss c, xss = yss ++ [c] := ⟨xss.dropLast, xss.getLast hne, (List.dropLast_concat_getLast hne).symm⟩
  have ht : toksC (yss ++ [c]) = (toksC yss ++ c.map itoaL) ++ [[48]] := by unfold toksC; simp
  have e := blk_hd q v (yss ++ [c]) []
  rw [List.append_nil, List.append_nil, ht, blk_app] at e
  have e2 : blk (gp q) (4 + (toksC yss ++ c.map itoaL).length) [[48]] = gp q (4 + (toksC yss ++ c.map itoaL).length) ++ [48] := by simp [blk]
  rw [e2, ← List.append_assoc] at e
  have e3 : hdT (gapS (q 0)) ((blk (gp q) 4 (toksC yss ++ c.map itoaL) ++ gp q (4 + (toksC yss ++ c.map itoaL).length)) ++ [48]) v (yss ++ [c]).length = hdT (gapS (q 0)) (blk (gp q) 4 (toksC yss ++ c.map itoaL) ++ gp q (4 + (toksC yss ++ c.map itoaL).length)) v (yss ++ [c]).length ++ [48] := by unfold hdT; simp only [List.append_assoc]
  rw [e, e3, List.length_append, List.length_singleton, Nat.add_sub_cancel, List.take_left]
  have hs := gp_skip q (4 + (toksC yss ++ c.map itoaL).length)
  have hE : Gapped (gp q (4 + (toksC yss ++ c.map itoaL).length)) := by have := hs.gapped []; rwa [List.append_nil] at this
  have htk : ∀ t ∈ toksC yss ++ c.map itoaL, Tok t := fun t h => by
    rw [List.mem_append] at h
    rcases h with h | h
    · exact toksC_tok yss t h
    · obtain ⟨l, _, rfl⟩ := List.mem_map.1 h
      exact (tok_itoa l).1
  refine readT_bad _ _ v (yss ++ [c]) (.inr (skip_gapS _)) (blk_gapped _ (gp_skip q) _ _ _ hE) hv0 hv1 hn1 hc fun k => .inr ⟨yss, c, rfl, ?_⟩
  obtain ⟨W, k', f', e1, hW⟩ := blk_words (gp q) (gp_skip q) _ hE (toksC yss ++ c.map itoaL) 4 k false htk
  obtain ⟨k2, f2, e4, _⟩ := hs.2 k' f' []
  rw [List.append_nil] at e4
  rw [e1, e4, splitL_nil, List.append_nil, numsW_map, hW, List.map_append, toksC_num yss (fun d h1 l h2 => by have := (hc d (by simp [h1]) l h2).2; unfold isF at this; simp at this; omega), List.map_map]
  congr 1
  apply List.map_congr_left
  intro l hl
  have := (hc c (by simp) l hl).2
  unfold isF at this
  simp at this
  exact numL_itoa l (by omega) (by omega)
theorem textL_words (v : Int) (xss : List (List Int)) : (wordsL true (textL v xss)).map (·.1) = wordsT v xss := by
  rw [textL_hd]
  unfold hdT
  obtain ⟨k0, k1, k2, k3, k, e⟩ := head_text2 [] ([10] ++ xss.flatMap clsT) v xss.length (.inl rfl) (.inr ⟨10, _, rfl, by decide⟩)
  rw [e]
  simp only [List.map_cons]
  rw [lines_words]
  rfl
theorem toksC_len (xss : List (List Int)) : (toksC xss).length = (xss.map List.length).sum + xss.length := by
  unfold toksC
  induction xss with
  | nil => rfl
  | cons c xss ih =>
    rw [List.flatMap_cons, List.length_append, ih, List.length_append, List.length_map, List.map_cons, List.sum_cons, List.length_singleton, List.length_cons]
    omega
theorem wordsT_short (v : Int) (xss : List (List Int)) (hv : -1000 < v ∧ v < 1000) (hn : xss.length < 1000) (h : ∀ c ∈ xss, ∀ l ∈ c, -1000 < l ∧ l < 1000) : ∀ t ∈ wordsT v xss, t.length ≤ 4 ∧ Bts t := fun t ht => by
  unfold wordsT at ht
  simp only [List.mem_cons] at ht
  rcases ht with rfl | rfl | rfl | rfl | ht
  · exact ⟨by simp, by intro x hx; simp at hx; omega⟩
  · exact ⟨by simp, by intro x hx; simp at hx; omega⟩
  · exact ⟨itoa_len3 v hv.1 hv.2, bts_itoa v⟩
  · exact ⟨itoa_len3 _ (by omega) (by omega), bts_itoa _⟩
  · unfold toksC at ht
    obtain ⟨c, hc, hx⟩ := List.mem_flatMap.1 ht
    rw [List.mem_append] at hx
    rcases hx with hx | hx
    · obtain ⟨l, hl, rfl⟩ := List.mem_map.1 hx
      exact ⟨itoa_len3 l (h c hc l hl).1 (h c hc l hl).2, bts_itoa l⟩
    · have e : t = [48] := by simpa using hx
      subst e
      exact ⟨by simp, by intro x hx; simp at hx; omega⟩
end Go.Proofs.YteihaanpllmieaaDoor
