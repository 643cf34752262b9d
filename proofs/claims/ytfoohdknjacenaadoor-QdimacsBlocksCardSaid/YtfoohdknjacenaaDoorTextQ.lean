/- Plain facts: what a text of a head and clauses tells, with one gap each ('textL') or other gaps ('blk'). Nothing of the program. -/
import Derived.Test.YtfoohdknjacenaaDoorTextP
import Derived.Test.YtfoohdknjacenaaDoorBytesD
namespace Go.Proofs.YtfoohdknjacenaaDoor

def Gapped (R : List Int) : Prop := R = [] ∨ ∃ g r, R = g :: r ∧ gapB g = true
theorem SkipA.gapped {G : List Int} (h : SkipA G) (R : List Int) : Gapped (G ++ R) := by
  obtain ⟨⟨g, r, e, hg⟩, _⟩ := h
  exact .inr ⟨g, r ++ R, by rw [e]; rfl, hg⟩
/-- The head: its four words, and what stands behind them. -/
theorem head_text2 (G0 R : List Int) (v n : Int) (hG0 : G0 = [] ∨ SkipA G0) (hR : Gapped R) : ∃ k0 k1 k2 k3 k, wordsL true (G0 ++ ([112] ++ ([32] ++ ([99, 110, 102] ++ ([32] ++ (itoaL v ++ ([32] ++ (itoaL n ++ R)))))))) =
    ([112], k0, true) :: ([99, 110, 102], k1, false) :: (itoaL v, k2, false) :: (itoaL n, k3, false) :: splitL true k false false R := by
  have h0 : ∃ k, wordsL true (G0 ++ ([112] ++ ([32] ++ ([99, 110, 102] ++ ([32] ++ (itoaL v ++ ([32] ++ (itoaL n ++ R)))))))) = splitL true k true false ([112] ++ ([32] ++ ([99, 110, 102] ++ ([32] ++ (itoaL v ++ ([32] ++ (itoaL n ++ R))))))) := by
    unfold wordsL
    rcases hG0 with rfl | h
    · exact ⟨0, rfl⟩
    · obtain ⟨k', f', e, hf⟩ := h.2 0 true ([112] ++ ([32] ++ ([99, 110, 102] ++ ([32] ++ (itoaL v ++ ([32] ++ (itoaL n ++ R)))))))
      rw [hf rfl] at e
      exact ⟨k', e⟩
  obtain ⟨k0, e0⟩ := h0
  have hb : ∀ k r, splitL true k false false (([32] : List Int) ++ r) = splitL true (k + 1) false false r := fun k r => splitL_blank true k false false 32 r (by decide)
  have hsp : ∀ r : List Int, ([32] ++ r = [] ∨ ∃ g r', [32] ++ r = g :: r' ∧ gapB g = true) := fun r => .inr ⟨32, r, rfl, by decide⟩
  rw [e0, split_tok (t := [112]) (by simp) (by intro x hx; simp at hx; subst hx; decide) (hsp _) _ _ (.inr (by simp)), hb]
  rw [split_tok (t := [99, 110, 102]) (by simp) (by intro x hx; simp at hx; rcases hx with rfl | rfl | rfl <;> decide) (hsp _) _ _ (.inl rfl), hb]
  rw [split_tok (t := itoaL v) (tok_itoa v).1.1 (tok_itoa v).1.2.1 (hsp _) _ _ (.inl rfl), hb]
  rw [split_tok (t := itoaL n) (tok_itoa n).1.1 (tok_itoa n).1.2.1 hR _ _ (.inl rfl)]
  exact ⟨_, _, _, _, _, rfl⟩
def hdT (G0 R : List Int) (v n : Int) : List Int := G0 ++ ([112] ++ ([32] ++ ([99, 110, 102] ++ ([32] ++ (itoaL v ++ ([32] ++ (itoaL n ++ R)))))))
/-- The numbers that clauses' words tell. -/
def numC (xss : List (List Int)) : List (Option Int) := xss.flatMap (fun c => c.map some ++ [some 0])
theorem readT_ok (G0 R : List Int) (v : Int) (xss : List (List Int)) (hG0 : G0 = [] ∨ SkipA G0) (hR : Gapped R) (hv0 : 0 ≤ v) (hv1 : v ≤ 4000) (hn1 : xss.length ≤ 20000) (hc : ∀ c ∈ xss, ∀ l ∈ c, l ≠ 0 ∧ isF l v = true) (h : ∀ k, numsW (splitL true k false false R) = numC xss) : ∃ ws, readL (hdT G0 R v xss.length) = (v, xss, ws, .ok) := by
  unfold hdT
  obtain ⟨k0, k1, k2, k3, k, e⟩ := head_text2 G0 R v xss.length hG0 hR
  have hh := head_four_ok (k0 := k0) (k1 := k1) (k2 := k2) (k3 := k3) (ws := splitL true k false false R) hv0 hv1 (show (0 : Int) ≤ xss.length by omega) (by omega)
  have hd : (([112], k0, true) :: ([99, 110, 102], k1, false) :: (itoaL v, k2, false) :: (itoaL xss.length, k3, false) :: splitL true k false false R : List Wd).drop 4 = splitL true k false false R := rfl
  unfold readL
  rw [e, hh, hd]
  dsimp only
  rw [if_pos (show Flt.ok.isOk = true from rfl), cl_full v xss _ 0 hc (h k)]
  exact ⟨_, by dsimp only; rw [if_pos (show Flt.ok.isOk = true from rfl)]⟩
theorem readT_bad (G0 R : List Int) (v : Int) (xss : List (List Int)) (hG0 : G0 = [] ∨ SkipA G0) (hR : Gapped R) (hv0 : 0 ≤ v) (hv1 : v ≤ 4000) (hn1 : xss.length ≤ 20000) (hc : ∀ c ∈ xss, ∀ l ∈ c, l ≠ 0 ∧ isF l v = true) (h : ∀ k, (∃ M, M ≠ [] ∧ numsW (splitL true k false false R) = numC xss ++ M) ∨ ∃ yss c, xss = yss ++ [c] ∧ numsW (splitL true k false false R) = numC yss ++ c.map some) : (readL (hdT G0 R v xss.length)).2.2.2.isOk = false := by
  unfold hdT
  obtain ⟨k0, k1, k2, k3, k, e⟩ := head_text2 G0 R v xss.length hG0 hR
  have hh := head_four_ok (k0 := k0) (k1 := k1) (k2 := k2) (k3 := k3) (ws := splitL true k false false R) hv0 hv1 (show (0 : Int) ≤ xss.length by omega) (by omega)
  have hd : (([112], k0, true) :: ([99, 110, 102], k1, false) :: (itoaL v, k2, false) :: (itoaL xss.length, k3, false) :: splitL true k false false R : List Wd).drop 4 = splitL true k false false R := rfl
  unfold readL
  rw [e, hh, hd]
  dsimp only
  rw [if_pos (show Flt.ok.isOk = true from rfl)]
  have this : (clausesL v xss.length 0 (splitL true k false false R) [] []).2.isOk = false := by
    rcases h k with ⟨M, hM, hw⟩ | ⟨yss, c, rfl, hw⟩
    · exact cl_over v M hM xss _ 0 hc hw
    · obtain ⟨ws', i', e1, e2⟩ := cl_many v ((yss ++ [c]).length : Nat) (c.map some) yss _ 0 [] (fun d hd => hc d (by simp [hd])) (by simp; omega) hw
      have := cl_short v ((yss ++ [c]).length : Nat) ([] ++ yss) (by simp; omega) c [] ws' i' (hc c (by simp)) e1
      rwa [← e2] at this
  rw [if_neg (by rw [this]; simp)]
  exact this
theorem numsW_map (ws : List Wd) : numsW ws = (ws.map (·.1)).map numL := by unfold numsW; rw [List.map_map]; rfl
/-- The clauses' words. -/
def toksC (xss : List (List Int)) : List (List Int) := xss.flatMap (fun c => c.map itoaL ++ [[48]])
theorem tok0 : Tok [48] := ⟨by simp, by intro x hx; simp at hx; subst hx; decide, by simp⟩
theorem num0 : numL [48] = some 0 := by decide
theorem toksC_tok (xss : List (List Int)) : ∀ t ∈ toksC xss, Tok t := fun t ht => by
  unfold toksC at ht
  obtain ⟨c, _, hc⟩ := List.mem_flatMap.1 ht
  rw [List.mem_append] at hc
  rcases hc with hc | hc
  · obtain ⟨l, _, rfl⟩ := List.mem_map.1 hc
    exact (tok_itoa l).1
  · have e : t = [48] := by simpa using hc
    subst e
    exact tok0
theorem toksC_num (xss : List (List Int)) (h : ∀ c ∈ xss, ∀ l ∈ c, -1000000000 < l ∧ l < 1000000000) : (toksC xss).map numL = numC xss := by
  unfold toksC numC
  induction xss with
  | nil => rfl
  | cons c xss ih =>
    rw [List.flatMap_cons, List.flatMap_cons, List.map_append, ih (fun d hd => h d (by simp [hd])), List.map_append, List.map_map]
    congr 2
    apply List.map_congr_left
    intro l hl
    exact numL_itoa l (h c (by simp) l hl).1 (h c (by simp) l hl).2
theorem clsT_toks (xss : List (List Int)) : xss.flatMap clsT = (xss.flatMap (fun c => c.map (fun l => (itoaL l, ([32] : List Int))) ++ [([48], [10])])).flatMap (fun p => p.1 ++ p.2) := by
  induction xss with
  | nil => rfl
  | cons c xss ih =>
    rw [List.flatMap_cons, List.flatMap_cons, List.flatMap_append, ih, List.flatMap_append]
    congr 1
    unfold clsT litT
    congr 1
    rw [List.flatMap_map]
theorem textL_hd (v : Int) (xss : List (List Int)) : textL v xss = hdT [] ([10] ++ xss.flatMap clsT) v xss.length := by
  unfold textL headT hdT
  simp
/-- What the clauses' lines tell. -/
theorem lines_words (xss : List (List Int)) (k : Nat) : (splitL true k false false ([10] ++ xss.flatMap clsT)).map (·.1) = toksC xss := by
  rw [List.singleton_append, splitL_nl, clsT_toks]
  have := toks_split [] (.inl rfl) (xss.flatMap (fun c => c.map (fun l => (itoaL l, ([32] : List Int))) ++ [([48], [10])])) (fun p hp => by
    obtain ⟨c, _, hc⟩ := List.mem_flatMap.1 hp
    rw [List.mem_append] at hc
    rcases hc with hc | hc
    · obtain ⟨l, _, rfl⟩ := List.mem_map.1 hc
      exact ⟨(tok_itoa l).1, skip_one (by decide)⟩
    · have e : p = ([48], [10]) := by simpa using hc
      subst e
      exact ⟨tok0, skip_one (by decide)⟩) (k + 1) true
  rw [List.append_nil] at this
  rw [this, if_pos rfl, List.append_nil]
  unfold toksC
  rw [List.map_flatMap]
  congr 1
  funext c
  simp
theorem textL_read (v : Int) (xss : List (List Int)) (hv0 : 0 ≤ v) (hv1 : v ≤ 4000) (hn1 : xss.length ≤ 20000) (hc : ∀ c ∈ xss, ∀ l ∈ c, l ≠ 0 ∧ isF l v = true) : ∃ ws, readL (textL v xss) = (v, xss, ws, .ok) := by
  rw [textL_hd]
  refine readT_ok [] _ v xss (.inl rfl) (.inr ⟨10, xss.flatMap clsT, rfl, by decide⟩) hv0 hv1 hn1 hc fun k => ?_
  rw [numsW_map, lines_words, toksC_num xss (fun c h1 l h2 => by have := (hc c h1 l h2).2; unfold isF at this; simp at this; omega)]
theorem bts_itoa (i : Int) : Bts (itoaL i) := (tok_itoa i).2
theorem textL_bts (v : Int) (xss : List (List Int)) : Bts (textL v xss) := by
  have hl : ∀ l, Bts (litT l) := fun l => (bts_itoa l).append (by intro x hx; simp at hx; omega)
  have hc : ∀ c, Bts (clsT c) := fun c => Bts.append (fun x hx => by obtain ⟨l, _, h⟩ := List.mem_flatMap.1 hx; exact hl l x h) (by intro x hx; simp at hx; omega)
  unfold textL headT
  refine Bts.append (Bts.append (Bts.append (Bts.append (Bts.append ?_ (bts_itoa v)) ?_) (bts_itoa _)) ?_) (fun x hx => by obtain ⟨l, _, h⟩ := List.mem_flatMap.1 hx; exact hc l x h)
  all_goals intro x hx; simp at hx; omega
theorem cls_len (xss : List (List Int)) (h : ∀ c ∈ xss, ∀ l ∈ c, -1000 < l ∧ l < 1000) : (xss.flatMap clsT).length ≤ 5 * (xss.map List.length).sum + 2 * xss.length := by
  have hl : ∀ c : List Int, (∀ l ∈ c, -1000 < l ∧ l < 1000) → (c.flatMap litT).length ≤ 5 * c.length := fun c => by
    induction c with
    | nil => intro _; simp
    | cons l c ih =>
      intro hc
      have h1 := ih (fun y hy => hc y (by simp [hy]))
      have h2 := itoa_len3 l (hc l (by simp)).1 (hc l (by simp)).2
      rw [List.flatMap_cons, List.length_append]
      unfold litT at h1 ⊢
      simp only [List.length_append, List.length_cons, List.length_nil] at h1 ⊢
      omega
  induction xss with
  | nil => simp
  | cons c xss ih =>
    have h1 := ih (fun d hd => h d (by simp [hd]))
    have h2 := hl c (h c (by simp))
    rw [List.flatMap_cons, List.length_append]
    have h3 : (clsT c).length = (c.flatMap litT).length + 2 := by unfold clsT; simp
    simp only [List.map_cons, List.sum_cons, List.length_cons]
    omega
theorem textL_len (v : Int) (xss : List (List Int)) (hv : -1000 < v ∧ v < 1000) (hn : xss.length < 1000) (h : ∀ c ∈ xss, ∀ l ∈ c, -1000 < l ∧ l < 1000) : (textL v xss).length ≤ 16 + (5 * (xss.map List.length).sum + 2 * xss.length) := by
  have h1 := cls_len xss h
  have h2 := itoa_len3 v hv.1 hv.2
  have h3 := itoa_len3 (xss.length : Int) (by omega) (by omega)
  unfold textL headT
  simp only [List.length_append, List.length_cons, List.length_nil]
  omega
end Go.Proofs.YtfoohdknjacenaaDoor
