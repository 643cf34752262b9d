/- Plain facts: a formula's text, line by line, whatever gaps stand between a block's words; the words of it, the blocks that they tell. Nothing of the program. -/
import Derived.Test.YtfoohdknjacenaaDoorBlkP
import Derived.Test.YtfoohdknjacenaaDoorTextQ
namespace Go.Proofs.YtfoohdknjacenaaDoor

/-- All variables of these blocks may stand there: what is met behind them. -/
def varsOk (vars : Int) : List Int → List Int → Option (List Int)
  | met, [] => some met
  | met, v :: r => if okV vars met v = true then varsOk vars (met ++ [v]) r else none
def blksOk (vars : Int) : List Int → List Blk → Option (List Int)
  | met, [] => some met
  | met, b :: r => match varsOk vars met b.2 with
    | none => none
    | some m => blksOk vars m r
/-- The first block with a variable that may not stand there. -/
def blksBad (vars : Int) : Nat → List Int → List Blk → Option Nat
  | _, _, [] => none
  | i, met, b :: r => match varsOk vars met b.2 with
    | none => some i
    | some m => blksBad vars (i + 1) m r
theorem bad_none (vars : Int) : ∀ (bs : List Blk) (i : Nat) (met : List Int), blksBad vars i met bs = none → ∃ m, blksOk vars met bs = some m
  | [], i, met => fun _ => ⟨met, rfl⟩
  | b :: r, i, met => fun h => by
    unfold blksBad at h
    unfold blksOk
    cases hv : varsOk vars met b.2 with
    | none => rw [hv] at h; cases h
    | some m => rw [hv] at h; exact bad_none vars r (i + 1) m h
theorem varsOk_met (vars : Int) : ∀ (l met m : List Int), varsOk vars met l = some m → m = met ++ l ∧ ∀ v ∈ l, 1 ≤ v ∧ v ≤ vars
  | [], met, m => fun h => by
    unfold varsOk at h
    have := Option.some.inj h
    exact ⟨by simp [this], fun v hv => by cases hv⟩
  | v :: r, met, m => fun h => by
    unfold varsOk at h
    by_cases hk : okV vars met v = true
    · rw [if_pos hk] at h
      obtain ⟨h1, h2⟩ := varsOk_met vars r _ _ h
      refine ⟨by rw [h1]; simp, fun y hy => ?_⟩
      rcases List.mem_cons.1 hy with rfl | hy
      · unfold okV at hk
        simp at hk
        exact ⟨hk.1, hk.2.1⟩
      · exact h2 y hy
    · rw [if_neg hk] at h; cases h
theorem blksOk_met (vars : Int) : ∀ (bs : List Blk) (met m : List Int), blksOk vars met bs = some m → m = met ++ bs.flatMap (·.2) ∧ ∀ b ∈ bs, ∀ v ∈ b.2, 1 ≤ v ∧ v ≤ vars
  | [], met, m => fun h => by
    unfold blksOk at h
    have := Option.some.inj h
    exact ⟨by simp [this], fun v hv => by cases hv⟩
  | b :: r, met, m => fun h => by
    unfold blksOk at h
    cases hv : varsOk vars met b.2 with
    | none => rw [hv] at h; cases h
    | some m' =>
      rw [hv] at h
      obtain ⟨h1, h2⟩ := varsOk_met vars _ _ _ hv
      obtain ⟨h3, h4⟩ := blksOk_met vars r _ _ h
      refine ⟨by rw [h3, h1]; simp, fun c hc => ?_⟩
      rcases List.mem_cons.1 hc with rfl | hc
      · exact h2
      · exact h4 c hc

/-- These words tell these blocks. -/
def IsB : List Blk → List Wd → Prop
  | [], pre => pre = []
  | b :: bs, pre => ∃ x vs z r, pre = x :: (vs ++ z :: r) ∧ isBlk x = true ∧ exB x = b.1 ∧ numsW vs = b.2.map some ∧ numL z.1 = some 0 ∧ IsB bs r
theorem blkS_vars (vars : Int) (e : Bool) (done : List Blk) (z : Wd) (hz : numL z.1 = some 0) : ∀ (l : List Int) (vs : List Wd) (met m acc : List Int) (i : Nat) (W : List Wd), numsW vs = l.map some → varsOk vars met l = some m →
    blkS vars i (vs ++ z :: W) met done (some (e, acc)) = blkS vars (i + vs.length + 1) W m (done ++ [(e, acc ++ l)]) none
  | [], [], met, m, acc, i, W, _, h => by
    unfold varsOk at h
    have := Option.some.inj h
    subst this
    rw [List.nil_append, blkS, hz]
    simp
  | [], y :: vs, met, m, acc, i, W, hn, _ => by simp [numsW] at hn
  | v :: l, [], met, m, acc, i, W, hn, _ => by simp [numsW] at hn
  | v :: l, y :: vs, met, m, acc, i, W, hn, h => by
    simp [numsW] at hn
    unfold varsOk at h
    by_cases hk : okV vars met v = true
    · rw [if_pos hk] at h
      have h0 : v ≠ 0 := by
        unfold okV at hk
        simp at hk
        omega
      rw [List.cons_append, blkS, hn.1]
      simp only [if_neg h0, if_pos hk]
      rw [blkS_vars vars e done z hz l vs _ m _ (i + 1) W hn.2 h]
      simp only [List.length_cons, List.append_assoc, List.singleton_append]
      rw [show i + 1 + vs.length + 1 = i + (vs.length + 1) + 1 by omega]
    · rw [if_neg hk] at h; cases h
theorem blkS_is (vars : Int) : ∀ (bs : List Blk) (pre : List Wd) (met m : List Int) (done : List Blk) (i : Nat) (W : List Wd), IsB bs pre → blksOk vars met bs = some m →
    blkS vars i (pre ++ W) met done none = blkS vars (i + pre.length) W m (done ++ bs) none
  | [], pre, met, m, done, i, W, hp, h => by
    have hp' : pre = [] := hp
    subst hp'
    unfold blksOk at h
    have := Option.some.inj h
    subst this
    simp
  | b :: bs, pre, met, m, done, i, W, hp, h => by
    obtain ⟨x, vs, z, r, rfl, h1, h2, h3, h4, h5⟩ := hp
    unfold blksOk at h
    cases hv : varsOk vars met b.2 with
    | none => rw [hv] at h; cases h
    | some m' =>
      rw [hv] at h
      rw [List.cons_append, blkS, if_pos h1, List.append_assoc, List.cons_append, blkS_vars vars _ done z h4 b.2 vs met m' [] (i + 1) (r ++ W) h3 hv, blkS_is vars bs r m' m _ _ W h5 h]
      rw [h2, List.nil_append, List.append_assoc, List.singleton_append]
      congr 1
      simp
      omega

/-- A gap, its place too. -/
def SkipK (G : List Int) : Prop := (∃ g G', G = g :: G' ∧ gapB g = true) ∧ ∀ k f, ∃ f', ∀ rest, splitL true k f false (G ++ rest) = splitL true (k + G.length) f' false rest
theorem skipK_one {g : Int} (hg : gapB g = true) : SkipK [g] := by
  refine ⟨⟨g, [], rfl, hg⟩, fun k f => ?_⟩
  rw [gap_parts] at hg
  by_cases h : g = 10
  · subst h
    exact ⟨true, fun rest => splitL_nl true k f false rest⟩
  · have hb : blankB g = true := by
      have : nlB g = false := by unfold nlB; simp [h]
      rw [this] at hg; simpa using hg
    exact ⟨f, fun rest => splitL_blank true k f false g rest hb⟩
theorem skipK_app {G G' : List Int} (h : SkipK G) (h' : SkipK G') : SkipK (G ++ G') := by
  obtain ⟨⟨g, r, e, hg⟩, h1⟩ := h
  refine ⟨⟨g, r ++ G', by rw [e]; rfl, hg⟩, fun k f => ?_⟩
  obtain ⟨f1, e1⟩ := h1 k f
  obtain ⟨f2, e2⟩ := h'.2 (k + G.length) f1
  exact ⟨f2, fun rest => by rw [List.append_assoc, e1, e2, List.length_append, Nat.add_assoc]⟩

def letL (e : Bool) : List Int := if e = true then [101] else [97]
def varsT (G : List Int) (l : List Int) : List Int := l.flatMap fun v => G ++ itoaL v
def blkT (G : List Int) (b : Blk) : List Int := letL b.1 ++ varsT G b.2 ++ [32, 48, 10]
theorem gap_begin {G : List Int} (hG : SkipK G) (r : List Int) : ∃ g r', G ++ r = g :: r' ∧ gapB g = true := by
  obtain ⟨⟨g, G', e, hg⟩, _⟩ := hG
  exact ⟨g, G' ++ r, by rw [e]; rfl, hg⟩
theorem vars_begin {G : List Int} (hG : SkipK G) (l rest : List Int) : ∃ g r', varsT G l ++ ([32, 48, 10] ++ rest) = g :: r' ∧ gapB g = true := by
  cases l with
  | nil => exact ⟨32, 48 :: 10 :: rest, rfl, by decide⟩
  | cons v l =>
    obtain ⟨g, r', e, hg⟩ := gap_begin hG (itoaL v ++ (varsT G l ++ ([32, 48, 10] ++ rest)))
    refine ⟨g, r', ?_, hg⟩
    rw [← e]
    unfold varsT
    rw [List.flatMap_cons]
    simp
/-- The words behind a block's letter. -/
theorem vars_words (G : List Int) (hG : SkipK G) : ∀ (l : List Int), (∀ v ∈ l, -1000000000 < v ∧ v < 1000000000) → ∀ k f, ∃ (vs : List Wd) (z : Wd), (∀ rest, splitL true k f false (varsT G l ++ ([32, 48, 10] ++ rest)) = vs ++ z :: splitL true (k + (varsT G l).length + 3) true false rest) ∧ numsW vs = l.map some ∧ numL z.1 = some 0
  | [], _, k, f => by
    refine ⟨[], ([48], k + 1, f), fun rest => ?_, rfl, num0⟩
    rw [show varsT G [] = [] from rfl, List.nil_append, List.nil_append]
    rw [show ([32, 48, 10] ++ rest : List Int) = 32 :: ([48] ++ (10 :: rest)) from rfl, splitL_blank true k f false 32 _ (by decide)]
    rw [split_tok (t := [48]) (by simp) (by intro x hx; simp at hx; subst hx; decide) (.inr ⟨10, rest, rfl, by decide⟩) _ _ (.inr (by simp)), splitL_nl]
    rfl
  | v :: l, hl, k, f => by
    obtain ⟨f1, e1⟩ := hG.2 k f
    obtain ⟨vs, z, h1, h2, h3⟩ := vars_words G hG l (fun y hy => hl y (by simp [hy])) (k + G.length + (itoaL v).length) false
    refine ⟨(itoaL v, k + G.length, f1) :: vs, z, fun rest => ?_, ?_, h3⟩
    · have he : varsT G (v :: l) ++ ([32, 48, 10] ++ rest) = G ++ (itoaL v ++ (varsT G l ++ ([32, 48, 10] ++ rest))) := by
        unfold varsT
        rw [List.flatMap_cons]
        simp
      have hn : (varsT G (v :: l)).length = G.length + (itoaL v).length + (varsT G l).length := by
        unfold varsT
        rw [List.flatMap_cons]
        simp only [List.length_append]
      rw [he, e1, split_tok (t := itoaL v) (tok_itoa v).1.1 (tok_itoa v).1.2.1 (.inr (vars_begin hG l rest)) _ _ (.inr (tok_itoa v).1.2.2), h1, hn]
      rw [List.cons_append]
      congr 4
      omega
    · show numL (itoaL v) :: numsW vs = _
      rw [numL_itoa v (hl v (by simp)).1 (hl v (by simp)).2, h2]
      rfl
theorem let_tok (e : Bool) : letL e ≠ [] ∧ (∀ x ∈ letL e, gapB x = false) ∧ (letL e).head? ≠ some 99 ∧ (letL e).length = 1 := by
  cases e
  · exact ⟨by simp [letL], by intro x hx; simp [letL] at hx; subst hx; decide, by simp [letL], rfl⟩
  · exact ⟨by simp [letL], by intro x hx; simp [letL] at hx; subst hx; decide, by simp [letL], rfl⟩
theorem let_blk (e : Bool) (k : Nat) : isBlk (letL e, k, true) = true ∧ exB (letL e, k, true) = e := by
  cases e <;> exact ⟨by simp [isBlk, letL], by simp [exB, letL]⟩
/-- The words of the blocks' lines. -/
theorem blks_words (G : List Int) (hG : SkipK G) : ∀ (bs : List Blk), (∀ b ∈ bs, ∀ v ∈ b.2, -1000000000 < v ∧ v < 1000000000) → ∀ k, ∃ pre : List Wd, (∀ rest, splitL true k true false (bs.flatMap (blkT G) ++ rest) = pre ++ splitL true (k + (bs.flatMap (blkT G)).length) true false rest) ∧ IsB bs pre
  | [], _, k => ⟨[], fun rest => rfl, rfl⟩
  | b :: bs, hb, k => by
    obtain ⟨vs, z, h1, h2, h3⟩ := vars_words G hG b.2 (hb b (by simp)) (k + 1) false
    obtain ⟨pre, h4, h5⟩ := blks_words G hG bs (fun c hc => hb c (by simp [hc])) (k + 1 + (varsT G b.2).length + 3)
    obtain ⟨t1, t2, t3, t4⟩ := let_tok b.1
    refine ⟨(letL b.1, k, true) :: (vs ++ z :: pre), fun rest => ?_, ⟨_, vs, z, pre, rfl, (let_blk b.1 k).1, (let_blk b.1 k).2, h2, h3, h5⟩⟩
    have he : (b :: bs).flatMap (blkT G) ++ rest = letL b.1 ++ (varsT G b.2 ++ ([32, 48, 10] ++ (bs.flatMap (blkT G) ++ rest))) := by
      rw [List.flatMap_cons]
      unfold blkT
      simp
    have hn : ((b :: bs).flatMap (blkT G)).length = 1 + (varsT G b.2).length + 3 + (bs.flatMap (blkT G)).length := by
      rw [List.flatMap_cons, List.length_append]
      unfold blkT
      simp only [List.length_append, t4, List.length_cons, List.length_nil]
    rw [he, split_tok t1 t2 (.inr (vars_begin hG b.2 _)) _ _ (.inr t3), t4, h1, h4, hn]
    rw [List.cons_append, List.append_assoc, List.cons_append]
    congr 5
    omega
end Go.Proofs.YtfoohdknjacenaaDoor
