/- Plain facts: decimal numerals as lists of numbers; a text of words and gaps, its words, the clauses that they tell. Nothing of the program. -/
import Derived.Test.YtfoohdknjacenaaDoorReadD
import Derived.Lib.ItoaMem
import Derived.Lib.UnsafeStr
namespace Go.Proofs.YtfoohdknjacenaaDoor

def decL (u : Nat) : List Int := (Lib.decDigits u).map fun b => (b.toNat : Int)
def itoaL (i : Int) : List Int := (Lib.itoa i).map fun b => (b.toNat : Int)
theorem byteCells_itoa (i : Int) : Lib.byteCells (Lib.itoa i) = (itoaL i).map (Value.int .u8) := by
  unfold Lib.byteCells itoaL
  rw [List.map_map]
  rfl
theorem itoaL_len (i : Int) : (itoaL i).length = (Lib.itoa i).length := by simp [itoaL]
theorem decL_small {u : Nat} (h : u < 10) : decL u = [48 + (u : Int)] := by
  unfold decL
  rw [Lib.decDigits, dif_pos h]
  simp
  omega
theorem decL_big {u : Nat} (h : ¬ u < 10) : decL u = decL (u / 10) ++ [48 + ((u % 10 : Nat) : Int)] := by
  unfold decL
  rw [Lib.decDigits, dif_neg h, List.map_append]
  congr 1
  simp
  omega
theorem digs_app (xs : List Int) (y : Int) : digs (xs ++ [y]) = 10 * digs xs + (y - 48) := by simp [digs, List.foldl_append]
theorem dec_ok (u : Nat) : digs (decL u) = u ∧ (∀ x ∈ decL u, digB x = true) ∧ decL u ≠ [] := by
  induction u using Nat.strongRecOn with
  | _ u ih =>
    by_cases h : u < 10
    · rw [decL_small h]
      refine ⟨by simp [digs]; omega, fun x hx => ?_, by simp⟩
      have e : x = 48 + (u : Int) := by simpa using hx
      subst e
      simp [digB]; omega
    · obtain ⟨h1, h2, h3⟩ := ih (u / 10) (by omega)
      rw [decL_big h]
      refine ⟨by rw [digs_app, h1]; omega, fun x hx => ?_, by simp⟩
      rw [List.mem_append] at hx
      rcases hx with hx | hx
      · exact h2 x hx
      · have e : x = 48 + ((u % 10 : Nat) : Int) := by simpa using hx
        subst e
        simp [digB]; omega
theorem dec_len : ∀ (k u : Nat), u < 10 ^ (k + 1) → (decL u).length ≤ k + 1
  | 0, u, h => by rw [decL_small (by simpa using h)]; simp
  | k + 1, u, h => by
    by_cases h' : u < 10
    · rw [decL_small h']; simp
    · rw [decL_big h', List.length_append, List.length_singleton]
      have := dec_len k (u / 10) (by rw [Nat.pow_succ] at h; omega)
      omega
theorem itoaL_neg {i : Int} (h : i < 0) : itoaL i = 45 :: decL i.natAbs := by
  unfold itoaL Lib.itoa
  rw [if_pos h]
  rfl
theorem itoaL_pos {i : Int} (h : ¬ i < 0) : itoaL i = decL i.toNat := by
  unfold itoaL Lib.itoa
  rw [if_neg h]
  rfl
theorem dec_head (u : Nat) (c : Int) (hc : digB c = false) : (decL u).head? ≠ some c := by
  obtain ⟨_, h2, h3⟩ := dec_ok u
  cases e : decL u with
  | nil => exact absurd e h3
  | cons x t =>
    intro h
    have hx : x = c := by simpa using h
    have := h2 x (by rw [e]; simp)
    rw [hx, hc] at this
    cases this
theorem natL_dec (u : Nat) (h : u < 1000000000) : natL (decL u) = some (u : Int) := by
  obtain ⟨h1, h2, h3⟩ := dec_ok u
  unfold natL
  rw [if_pos ⟨List.length_pos_iff.2 h3, dec_len 8 u (by omega), by rw [List.all_eq_true]; exact h2⟩, h1]
theorem numL_itoa (i : Int) (h1 : -1000000000 < i) (h2 : i < 1000000000) : numL (itoaL i) = some i := by
  by_cases h : i < 0
  · rw [itoaL_neg h]
    unfold numL
    rw [if_pos (by simp), List.tail_cons, natL_dec _ (by omega)]
    simp; omega
  · rw [itoaL_pos h]
    unfold numL
    rw [if_neg (dec_head _ 45 (by decide)), natL_dec _ (by omega)]
    simp; omega
theorem itoa_len3 (i : Int) (h1 : -1000 < i) (h2 : i < 1000) : (itoaL i).length ≤ 4 := by
  by_cases h : i < 0
  · rw [itoaL_neg h, List.length_cons]
    have := dec_len 2 i.natAbs (by omega)
    omega
  · rw [itoaL_pos h]
    have := dec_len 2 i.toNat (by omega)
    omega
theorem dig_byte {x : Int} (h : digB x = true) : 0 ≤ x ∧ x ≤ 255 ∧ gapB x = false ∧ x ≠ 99 := by
  unfold digB at h
  simp at h
  refine ⟨by omega, by omega, ?_, by omega⟩
  unfold gapB
  simp
  omega
/-- A word of the text. -/
def Tok (t : List Int) : Prop := t ≠ [] ∧ (∀ x ∈ t, gapB x = false) ∧ t.head? ≠ some 99
theorem tok_itoa (i : Int) : Tok (itoaL i) ∧ Bts (itoaL i) := by
  by_cases h : i < 0
  · rw [itoaL_neg h]
    obtain ⟨_, h2, _⟩ := dec_ok i.natAbs
    refine ⟨⟨by simp, fun x hx => ?_, by simp⟩, fun x hx => ?_⟩
    · have hx' : x = 45 ∨ x ∈ decL i.natAbs := by simpa using hx
      rcases hx' with rfl | hx'
      · decide
      · exact (dig_byte (h2 x hx')).2.2.1
    · have hx' : x = 45 ∨ x ∈ decL i.natAbs := by simpa using hx
      rcases hx' with rfl | hx'
      · omega
      · have := dig_byte (h2 x hx'); omega
  · rw [itoaL_pos h]
    obtain ⟨_, h2, h3⟩ := dec_ok i.toNat
    exact ⟨⟨h3, fun x hx => (dig_byte (h2 x hx)).2.2.1, dec_head _ 99 (by decide)⟩, fun x hx => by have := dig_byte (h2 x hx); omega⟩

/-- The word ahead of a gap, or of the end. -/
theorem split_tok {t rest : List Int} (h0 : t ≠ []) (h1 : ∀ x ∈ t, gapB x = false) (hr : rest = [] ∨ ∃ g r, rest = g :: r ∧ gapB g = true) (k : Nat) (f : Bool) (hf : f = false ∨ t.head? ≠ some 99) :
    splitL true k f false (t ++ rest) = (t, k, f) :: splitL true (k + t.length) false false rest := by
  cases t with
  | nil => exact absurd rfl h0
  | cons x t =>
    have hx := h1 x (by simp)
    have hw : (t ++ rest).takeWhile inW = t ∧ (t ++ rest).dropWhile inW = rest := by
      have hall : ∀ y ∈ t, inW y = true := fun y hy => by unfold inW; rw [h1 y (by simp [hy])]; rfl
      rw [List.takeWhile_append_of_pos hall, List.dropWhile_append_of_pos hall]
      rcases hr with rfl | ⟨g, r, rfl, hg⟩
      · simp
      · have : inW g = false := by unfold inW; rw [hg]; rfl
        simp [this]
    have hc : (f && x == 99) = false := by
      rcases hf with rfl | hf
      · rfl
      · have : ¬ x = 99 := fun e => hf (by simp [e])
        simp [this]
    rw [List.cons_append, splitL_word true k f false x (t ++ rest) hx, hw.1, hw.2]
    simp only [Bool.true_and, hc, Bool.or_false, Bool.false_eq_true, if_false, List.cons_append, List.nil_append]
    rw [List.length_cons, Nat.add_comm 1]
/-- A gap: it changes nothing but places. -/
def SkipA (G : List Int) : Prop := (∃ g G', G = g :: G' ∧ gapB g = true) ∧ ∀ k f rest, ∃ k' f', splitL true k f false (G ++ rest) = splitL true k' f' false rest ∧ (f = true → f' = true)
theorem skip_one {g : Int} (hg : gapB g = true) : SkipA [g] := by
  refine ⟨⟨g, [], rfl, hg⟩, fun k f rest => ?_⟩
  rw [gap_parts] at hg
  by_cases h : g = 10
  · subst h
    exact ⟨k + 1, true, splitL_nl true k f false rest, fun _ => rfl⟩
  · have hb : blankB g = true := by
      have : nlB g = false := by unfold nlB; simp [h]
      rw [this] at hg; simpa using hg
    exact ⟨k + 1, f, splitL_blank true k f false g rest hb, id⟩
theorem skip_app {G G' : List Int} (h : SkipA G) (h' : SkipA G') : SkipA (G ++ G') := by
  obtain ⟨⟨g, r, e, hg⟩, h1⟩ := h
  refine ⟨⟨g, r ++ G', by rw [e]; rfl, hg⟩, fun k f rest => ?_⟩
  obtain ⟨k1, f1, e1, i1⟩ := h1 k f (G' ++ rest)
  obtain ⟨k2, f2, e2, i2⟩ := h'.2 k1 f1 rest
  exact ⟨k2, f2, by rw [List.append_assoc, e1, e2], fun hf => i2 (i1 hf)⟩
/-- The words behind the head, as they stand. -/
theorem toks_split (tl : List Int) (htl : tl = [] ∨ Tok tl) : ∀ (ts : List (List Int × List Int)), (∀ p ∈ ts, Tok p.1 ∧ SkipA p.2) → ∀ k f, (splitL true k f false (ts.flatMap (fun p => p.1 ++ p.2) ++ tl)).map (·.1) = ts.map (·.1) ++ (if tl = [] then [] else [tl])
  | [], _, k, f => by
    rw [List.flatMap_nil, List.nil_append]
    rcases htl with rfl | h
    · rw [splitL_nil]; rfl
    · have := split_tok (rest := []) h.1 h.2.1 (.inl rfl) k f (.inr h.2.2)
      rw [List.append_nil] at this
      rw [this, splitL_nil, if_neg h.1]
      rfl
  | p :: ts, hts, k, f => by
    obtain ⟨hp, hG⟩ := hts p (by simp)
    have ih := toks_split tl htl ts (fun q hq => hts q (by simp [hq]))
    obtain ⟨g, r, e, hg⟩ := hG.1
    rw [List.flatMap_cons, List.append_assoc, List.append_assoc, split_tok hp.1 hp.2.1 (.inr ⟨g, r ++ (ts.flatMap (fun p => p.1 ++ p.2) ++ tl), by rw [e]; rfl, hg⟩) k f (.inr hp.2.2)]
    obtain ⟨k', f', e', _⟩ := hG.2 (k + p.1.length) false (ts.flatMap (fun p => p.1 ++ p.2) ++ tl)
    rw [e', List.map_cons, ih k' f']
    rfl
/-- What the words tell, word by word. -/
def numsW (ws : List Wd) : List (Option Int) := ws.map fun x => numL x.1
theorem cl_cons {vars many : Int} {i : Nat} {x : Wd} {ws : List Wd} {out : List (List Int)} {c : List Int} {l : Int} (h : (out.length : Int) < many) (hx : numL x.1 = some l) :
    clausesL vars many i (x :: ws) out c = if l = 0 then clausesL vars many (i + 1) ws (out ++ [c]) [] else if isF l vars = true then clausesL vars many (i + 1) ws out (c ++ [l]) else ([], .text i) := by
  rw [clausesL, if_neg (by omega), hx]
theorem cl_clause (vars many : Int) (M : List (Option Int)) (out : List (List Int)) (h : (out.length : Int) < many) : ∀ (c c0 : List Int) (ws : List Wd) (i : Nat), (∀ l ∈ c, l ≠ 0 ∧ isF l vars = true) → numsW ws = c.map some ++ some 0 :: M →
    ∃ ws' i', numsW ws' = M ∧ clausesL vars many i ws out c0 = clausesL vars many i' ws' (out ++ [c0 ++ c]) []
  | [], c0, [], i, _, hw => by simp [numsW] at hw
  | l :: c, c0, [], i, _, hw => by simp [numsW] at hw
  | [], c0, x :: ws, i, _, hw => by
    simp [numsW] at hw
    exact ⟨ws, i + 1, hw.2, by rw [cl_cons h hw.1]; simp⟩
  | l :: c, c0, x :: ws, i, hc, hw => by
    simp [numsW] at hw
    obtain ⟨h1, h2⟩ := hc l (by simp)
    obtain ⟨ws', i', e1, e2⟩ := cl_clause vars many M out h c (c0 ++ [l]) ws (i + 1) (fun y hy => hc y (by simp [hy])) hw.2
    refine ⟨ws', i', e1, ?_⟩
    rw [cl_cons h hw.1, if_neg h1, if_pos h2, e2]
    simp
theorem cl_many (vars many : Int) (M : List (Option Int)) : ∀ (xss : List (List Int)) (ws : List Wd) (i : Nat) (out : List (List Int)), (∀ c ∈ xss, ∀ l ∈ c, l ≠ 0 ∧ isF l vars = true) → (out.length : Int) + xss.length ≤ many → numsW ws = xss.flatMap (fun c => c.map some ++ [some 0]) ++ M →
    ∃ ws' i', numsW ws' = M ∧ clausesL vars many i ws out [] = clausesL vars many i' ws' (out ++ xss) []
  | [], ws, i, out, _, _, hw => ⟨ws, i, by simpa using hw, by simp⟩
  | c :: xss, ws, i, out, hc, hm, hw => by
    rw [List.flatMap_cons, List.append_assoc, List.append_assoc] at hw
    obtain ⟨ws1, i1, e1, e2⟩ := cl_clause vars many _ out (by simp at hm; omega) c [] ws i (hc c (by simp)) hw
    obtain ⟨ws2, i2, e3, e4⟩ := cl_many vars many M xss ws1 i1 (out ++ [[] ++ c]) (fun d hd => hc d (by simp [hd])) (by simp at hm ⊢; omega) (by simpa using e1)
    exact ⟨ws2, i2, e3, by rw [e2, e4]; simp⟩
theorem cl_short (vars many : Int) (out : List (List Int)) (h : (out.length : Int) < many) : ∀ (c c0 : List Int) (ws : List Wd) (i : Nat), (∀ l ∈ c, l ≠ 0 ∧ isF l vars = true) → numsW ws = c.map some → (clausesL vars many i ws out c0).2.isOk = false
  | [], c0, [], i, _, _ => by rw [clausesL, if_pos h]; rfl
  | l :: c, c0, [], i, _, hw => by simp [numsW] at hw
  | [], c0, x :: ws, i, _, hw => by simp [numsW] at hw
  | l :: c, c0, x :: ws, i, hc, hw => by
    simp [numsW] at hw
    obtain ⟨h1, h2⟩ := hc l (by simp)
    rw [cl_cons h hw.1, if_neg h1, if_pos h2]
    exact cl_short vars many out h c (c0 ++ [l]) ws (i + 1) (fun y hy => hc y (by simp [hy])) hw.2
theorem cl_full (vars : Int) (xss : List (List Int)) (ws : List Wd) (i : Nat) (hc : ∀ c ∈ xss, ∀ l ∈ c, l ≠ 0 ∧ isF l vars = true) (hw : numsW ws = xss.flatMap (fun c => c.map some ++ [some 0])) : clausesL vars xss.length i ws [] [] = (xss, .ok) := by
  obtain ⟨ws', i', e1, e2⟩ := cl_many vars xss.length [] xss ws i [] hc (by simp) (by simpa using hw)
  have : ws' = [] := by simpa [numsW] using e1
  subst this
  rw [e2, List.nil_append, clausesL, if_neg (by omega)]
theorem cl_over (vars : Int) (M : List (Option Int)) (hM : M ≠ []) (xss : List (List Int)) (ws : List Wd) (i : Nat) (hc : ∀ c ∈ xss, ∀ l ∈ c, l ≠ 0 ∧ isF l vars = true) (hw : numsW ws = xss.flatMap (fun c => c.map some ++ [some 0]) ++ M) : (clausesL vars xss.length i ws [] []).2.isOk = false := by
  obtain ⟨ws', i', e1, e2⟩ := cl_many vars xss.length M xss ws i [] hc (by simp) hw
  rw [e2, List.nil_append]
  cases ws' with
  | nil => exact absurd e1.symm hM
  | cons x ws' => rw [clausesL, if_pos (by omega)]; rfl
/-- The head: its four words, and what stands behind them. -/
theorem head_text (G0 Gx rest : List Int) (v n : Int) (hG0 : G0 = [] ∨ SkipA G0) (hGx : SkipA Gx) : ∃ k0 k1 k2 k3 k f, wordsL true (G0 ++ ([112] ++ ([32] ++ ([99, 110, 102] ++ ([32] ++ (itoaL v ++ ([32] ++ (itoaL n ++ (Gx ++ rest))))))))) =
    ([112], k0, true) :: ([99, 110, 102], k1, false) :: (itoaL v, k2, false) :: (itoaL n, k3, false) :: splitL true k f false rest := by
  have h0 : ∃ k, wordsL true (G0 ++ ([112] ++ ([32] ++ ([99, 110, 102] ++ ([32] ++ (itoaL v ++ ([32] ++ (itoaL n ++ (Gx ++ rest))))))))) = splitL true k true false ([112] ++ ([32] ++ ([99, 110, 102] ++ ([32] ++ (itoaL v ++ ([32] ++ (itoaL n ++ (Gx ++ rest)))))))) := by
    unfold wordsL
    rcases hG0 with rfl | h
    · exact ⟨0, rfl⟩
    · obtain ⟨k', f', e, hf⟩ := h.2 0 true ([112] ++ ([32] ++ ([99, 110, 102] ++ ([32] ++ (itoaL v ++ ([32] ++ (itoaL n ++ (Gx ++ rest))))))))
      rw [hf rfl] at e
      exact ⟨k', e⟩
  obtain ⟨k0, e0⟩ := h0
  have hb : ∀ k r, splitL true k false false (([32] : List Int) ++ r) = splitL true (k + 1) false false r := fun k r => splitL_blank true k false false 32 r (by decide)
  have hsp : ∀ r : List Int, ([32] ++ r = [] ∨ ∃ g r', [32] ++ r = g :: r' ∧ gapB g = true) := fun r => .inr ⟨32, r, rfl, by decide⟩
  obtain ⟨g, G', eG, hg⟩ := hGx.1
  rw [e0, split_tok (t := [112]) (by simp) (by intro x hx; simp at hx; subst hx; decide) (hsp _) _ _ (.inr (by simp)), hb]
  rw [split_tok (t := [99, 110, 102]) (by simp) (by intro x hx; simp at hx; rcases hx with rfl | rfl | rfl <;> decide) (hsp _) _ _ (.inl rfl), hb]
  rw [split_tok (t := itoaL v) (tok_itoa v).1.1 (tok_itoa v).1.2.1 (hsp _) _ _ (.inl rfl), hb]
  rw [split_tok (t := itoaL n) (tok_itoa n).1.1 (tok_itoa n).1.2.1 (.inr ⟨g, G' ++ rest, by rw [eG]; rfl, hg⟩) _ _ (.inl rfl)]
  obtain ⟨k', f', e, _⟩ := hGx.2 (k0 + ([112] : List Int).length + 1 + ([99, 110, 102] : List Int).length + 1 + (itoaL v).length + 1 + (itoaL n).length) false rest
  rw [e]
  exact ⟨_, _, _, _, _, _, rfl⟩
theorem head_four_ok {k0 k1 k2 k3 : Nat} {v n : Int} {ws : List Wd} (hv0 : 0 ≤ v) (hv1 : v ≤ 4000) (hn0 : 0 ≤ n) (hn1 : n ≤ 20000) :
    headL (([112], k0, true) :: ([99, 110, 102], k1, false) :: (itoaL v, k2, false) :: (itoaL n, k3, false) :: ws) = (v, n, .ok) := by
  have hh : ∀ i : Int, 0 ≤ i → (itoaL i).head? ≠ some 45 := fun i h => by rw [itoaL_pos (by omega)]; exact dec_head _ 45 (by decide)
  have c2 : cntL (([112], k0, true) :: ([99, 110, 102], k1, false) :: (itoaL v, k2, false) :: (itoaL n, k3, false) :: ws) 2 = some v := by
    unfold cntL
    rw [if_pos ⟨by simp, rfl, hh v hv0⟩]
    exact numL_itoa v (by omega) (by omega)
  have c3 : cntL (([112], k0, true) :: ([99, 110, 102], k1, false) :: (itoaL v, k2, false) :: (itoaL n, k3, false) :: ws) 3 = some n := by
    unfold cntL
    rw [if_pos ⟨by simp, rfl, hh n hn0⟩]
    exact numL_itoa n (by omega) (by omega)
  unfold headL
  rw [if_neg (fun h => h ⟨by simp, rfl, rfl⟩), if_neg (fun h => h ⟨by simp, rfl, rfl⟩), c2, c3]
  simp only [show ¬ (4000 < v) from by omega, show ¬ (20000 < n) from by omega, if_false]
/-- A text of a head and words behind it: what it tells. -/
theorem read_text (G0 Gx rest : List Int) (v : Int) (xss : List (List Int)) (hG0 : G0 = [] ∨ SkipA G0) (hGx : SkipA Gx) (hv0 : 0 ≤ v) (hv1 : v ≤ 4000) (hn1 : xss.length ≤ 20000) (hc : ∀ c ∈ xss, ∀ l ∈ c, l ≠ 0 ∧ isF l v = true) :
    ((∀ k f, numsW (splitL true k f false rest) = xss.flatMap (fun c => c.map some ++ [some 0])) → ∃ ws, readL (G0 ++ ([112] ++ ([32] ++ ([99, 110, 102] ++ ([32] ++ (itoaL v ++ ([32] ++ (itoaL xss.length ++ (Gx ++ rest))))))))) = (v, xss, ws, .ok)) ∧
    ((∀ k f, ∃ M, M ≠ [] ∧ numsW (splitL true k f false rest) = xss.flatMap (fun c => c.map some ++ [some 0]) ++ M) → (readL (G0 ++ ([112] ++ ([32] ++ ([99, 110, 102] ++ ([32] ++ (itoaL v ++ ([32] ++ (itoaL xss.length ++ (Gx ++ rest)))))))))).2.2.2.isOk = false) ∧
    ((∀ k f, ∃ yss c, xss = yss ++ [c] ∧ numsW (splitL true k f false rest) = yss.flatMap (fun c => c.map some ++ [some 0]) ++ c.map some) → (readL (G0 ++ ([112] ++ ([32] ++ ([99, 110, 102] ++ ([32] ++ (itoaL v ++ ([32] ++ (itoaL xss.length ++ (Gx ++ rest)))))))))).2.2.2.isOk = false) := by
  obtain ⟨k0, k1, k2, k3, k, f, e⟩ := head_text G0 Gx rest v xss.length hG0 hGx
  have hh := head_four_ok (k0 := k0) (k1 := k1) (k2 := k2) (k3 := k3) (ws := splitL true k f false rest) hv0 hv1 (show (0 : Int) ≤ xss.length by omega) (by omega)
  have hd : (([112], k0, true) :: ([99, 110, 102], k1, false) :: (itoaL v, k2, false) :: (itoaL xss.length, k3, false) :: splitL true k f false rest : List Wd).drop 4 = splitL true k f false rest := rfl
  unfold readL
  rw [e, hh, hd]
  dsimp only
  rw [if_pos (show Flt.ok.isOk = true from rfl)]
  refine ⟨fun h => ?_, fun h => ?_, fun h => ?_⟩
  · rw [cl_full v xss _ 0 hc (h k f)]
    exact ⟨_, by dsimp only; rw [if_pos (show Flt.ok.isOk = true from rfl)]⟩
  · obtain ⟨M, hM, hw⟩ := h k f
    have := cl_over v M hM xss _ 0 hc hw
    rw [if_neg (by rw [this]; simp)]
    exact this
  · obtain ⟨yss, c, rfl, hw⟩ := h k f
    obtain ⟨ws', i', e1, e2⟩ := cl_many v ((yss ++ [c]).length : Nat) (c.map some) yss _ 0 [] (fun d hd => hc d (by simp [hd])) (by simp; omega) hw
    have := cl_short v ((yss ++ [c]).length : Nat) ([] ++ yss) (by simp; omega) c [] ws' i' (hc c (by simp)) e1
    rw [← e2] at this
    rw [if_neg (by rw [this]; simp)]
    exact this
end Go.Proofs.YtfoohdknjacenaaDoor
