/- Plain facts of a formula of nine variables, its two blocks, some free: it may be; its free variables come first in its game, which has two blocks at most. Contracts of Formula, Free, Norm on it. Conditions: those typed. -/
import Derived.Test.YtmohdhifilclbaaDoorMakeF
namespace Go.Proofs.YtmohdhifilclbaaDoor
open Go.RowKit

theorem isB_of (l : Int) (h : l ≠ 0 ∧ isF l 9 = true) : isB 9 l = true ∧ 1 ≤ absI l ∧ absI l ≤ 9 ∧ -9 ≤ l ∧ l ≤ 9 := by
  obtain ⟨h0, h1⟩ := h
  unfold isF at h1
  simp at h1
  unfold isB absI
  simp
  split <;> omega
theorem sum_take (xss : List (List Int)) (k : Nat) : sumTo xss k ≤ (xss.map List.length).sum := by
  have := sumTo_mono xss (min k xss.length) xss.length (Nat.min_le_right _ _)
  unfold sumTo at this ⊢
  rw [List.take_length] at this
  by_cases h : k ≤ xss.length
  · rw [Nat.min_eq_left h] at this; exact this
  · rw [List.take_of_length_le (by omega)]; exact Nat.le_refl _
theorem sp_ok {ex : Bool} {la lb : List Int} {xss : List (List Int)} (h : SpI ex 10 la lb) (hg : ∀ c ∈ xss, ∀ l ∈ c, l ≠ 0 ∧ isF l 9 = true) (hs : (xss.map List.length).sum ≤ 200) (hn : xss.length ≤ 200) : CheckFF 9 [(ex, la), (!ex, lb)] xss 0 false 0 := by
  refine .inr ⟨.inr (.inr ⟨?_, fun xs hx l hl => (isB_of l (hg xs hx l hl)).1, rfl, rfl, rfl⟩), .inl ⟨sp_check h, rfl, rfl, rfl⟩⟩
  unfold tooMuch
  rintro (h1 | h1 | h1 | h1)
  · omega
  · omega
  · omega
  · have := sum_take xss xss.length; omega
theorem flat_sum (xss : List (List Int)) : xss.flatten.length = (xss.map List.length).sum := by simp [List.length_flatten]
theorem mem_len {xss : List (List Int)} {xs : List Int} (h : xs ∈ xss) : xs.length ≤ (xss.map List.length).sum := by
  induction xss with
  | nil => cases h
  | cons a r ih =>
    simp only [List.map_cons, List.sum_cons]
    rcases List.mem_cons.1 h with rfl | h
    · omega
    · have := ih h; omega
theorem varsB_two (e1 e2 : Bool) (la lb : List Int) : varsB [(e1, la), (e2, lb)] = la ++ lb := by simp [varsB]
/-- The first block stays the first. -/
theorem keep_head {out : List Blk} {e : Bool} {x : List Int} (b : Blk) (h : 0 < out.length) (he : (out.getD 0 blk0).1 = e) (hx : ∀ v ∈ x, v ∈ (out.getD 0 blk0).2) :
    0 < (mergeStep out b).length ∧ ((mergeStep out b).getD 0 blk0).1 = e ∧ ∀ v ∈ x, v ∈ ((mergeStep out b).getD 0 blk0).2 := by
  by_cases h0 : b.2.length = 0
  · rw [step_zero out b h0]; exact ⟨h, he, hx⟩
  · by_cases hj : (lastB out).1 = b.1
    · obtain ⟨init, y, rfl⟩ := snocB out h
      have hl : lastB (init ++ [y]) = y := by simp [lastB, List.getD]
      rw [hl] at hj
      rw [step_join init y b h0 hj]
      refine ⟨by simp, ?_⟩
      rw [getD_snoc] at he hx ⊢
      by_cases hi : 0 < init.length
      · rw [if_pos hi] at he hx ⊢; exact ⟨he, hx⟩
      · have : 0 = init.length := by omega
        rw [if_neg hi, if_pos this] at he hx ⊢
        exact ⟨by rw [← hj]; exact he, fun v hv => List.mem_append_left _ (hx v hv)⟩
    · rw [step_new out b h0 fun _ => hj]
      refine ⟨by simp, ?_⟩
      rw [getD_snoc, if_pos h]
      exact ⟨he, hx⟩
theorem sp_game {ex : Bool} {la lb : List Int} {xss : List (List Int)} (h : SpI ex 10 la lb) (hg : ∀ c ∈ xss, ∀ l ∈ c, l ≠ 0 ∧ isF l 9 = true) :
    (gameL [(ex, la), (!ex, lb)] xss).length ≤ 2 ∧ (∀ v ∈ freeL [(ex, la), (!ex, lb)] xss, exG (gameL [(ex, la), (!ex, lb)] xss) = true ∧ v ∈ outG (gameL [(ex, la), (!ex, lb)] xss)) := by
  obtain ⟨_, hm⟩ := free_spec [(ex, la), (!ex, lb)] xss
  have hex : ∀ v ∈ freeL [(ex, la), (!ex, lb)] xss, ex = true := fun v hv => by
    obtain ⟨h1, h2⟩ := (hm v).1 hv
    rw [varsB_two] at h2
    cases ex with
    | true => rfl
    | false =>
      exfalso
      unfold litsL at h1
      obtain ⟨l, hl, rfl⟩ := List.mem_map.1 h1
      obtain ⟨c, hc, hlc⟩ := List.mem_flatten.1 hl
      have := (isB_of l (hg c hc l hlc)).2
      exact h2 (h.all rfl _ this.1 (by omega))
  unfold gameL
  generalize freeL [(ex, la), (!ex, lb)] xss = x at *
  clear hm
  have hfold : ∀ z, mergeL ((true, x) :: z) = z.foldl mergeStep (mergeStep [] (true, x)) := fun z => rfl
  by_cases hx : x.length = 0
  · have hx' : x = [] := List.eq_nil_of_length_eq_zero hx
    subst hx'
    refine ⟨?_, fun v hv => by simp at hv⟩
    rw [hfold, step_zero [] _ rfl]
    exact (merge_whole [(ex, la), (!ex, lb)]).2.2
  · have e1 : mergeStep [] (true, x) = [(true, x)] := step_new [] _ hx fun h => absurd h (by simp)
    have hxt : ex = true := by
      cases x with
      | nil => simp at hx
      | cons v r => exact hex v (by simp)
    subst hxt
    rw [hfold, e1]
    simp only [List.foldl_cons, List.foldl_nil]
    have h1 : ∃ y, mergeStep [(true, x)] (true, la) = [y] := by
      by_cases h0 : la.length = 0
      · exact ⟨_, step_zero _ _ h0⟩
      · exact ⟨_, step_join [] (true, x) (true, la) h0 rfl⟩
    obtain ⟨k1, k2, k3⟩ := keep_head (x := x) (true, la) (by simp : 0 < [(true, x)].length) (e := true) rfl (fun v hv => hv)
    obtain ⟨y, hy⟩ := h1
    rw [hy] at k1 k2 k3 ⊢
    obtain ⟨j1, j2, j3⟩ := keep_head (x := x) (!true, lb) k1 k2 k3
    have hlen : (mergeStep [y] (!true, lb)).length ≤ 2 := by
      by_cases h0 : lb.length = 0
      · rw [step_zero _ _ h0]; simp
      · by_cases hj : y.1 = !true
        · rw [show [y] = [] ++ [y] from rfl, step_join [] y (!true, lb) h0 hj]; simp
        · rw [step_new [y] (!true, lb) h0 fun _ => by simpa [lastB, List.getD] using hj]; simp
    refine ⟨hlen, fun v hv => ⟨?_, j3 v hv⟩⟩
    unfold exG
    rw [if_neg (by omega)]
    exact j2

theorem makeFormI (a : Option Addr) (c : Nat) (cs : List Int) (fi : Int) (ex : Bool) (fr : Int) (w : World) (h1 : 0 ≤ fi) (h2 : 0 ≤ fr) (hv : RowAt w a c cs) (hcs : ∀ y ∈ cs, -9223372036854775808 ≤ y ∧ y ≤ 9223372036854775807) (hn : cs.length ≤ 200) :
    Calls Tryd.prog 26 #[.slice a cs.length c, .int .i64 9, .int .i64 fi, .bool ex, .int .i64 fr] w fun e w' => (∃ q d la lb ac cc xss, e = .returned (.agg #[.slice q 2 d, .int .i64 9, .slice ac (List.length xss) cc]) ∧ BRowsAt w' q d [(ex, la), (!ex, lb)] ∧ RowsAt w' ac cc xss ∧ SpI ex 10 la lb ∧ la.length + lb.length ≤ 9 ∧
      (∀ c ∈ xss, ∀ l ∈ c, l ≠ 0 ∧ isF l 9 = true) ∧ (xss.map List.length).sum ≤ cs.length ∧ xss.length ≤ cs.length) ∧ Below w.heap.size w w' := by
  obtain ⟨m, rfl⟩ : ∃ m : Nat, fi = m := ⟨fi.toNat, by omega⟩
  obtain ⟨k, rfl⟩ : ∃ k : Nat, fr = k := ⟨fr.toNat, by omega⟩
  cases ex with
  | true => exact makeForm_true a c cs m k w hv hcs hn
  | false => exact makeForm_false a c cs m k w hv hcs hn

/-- What is known of the formula. -/
structure FmI (w : World) (q : Option Addr) (d : Nat) (ex : Bool) (la lb : List Int) (ac : Option Addr) (cc : Nat) (xss : List (List Int)) : Prop where
  rows : BRowsAt w q d [(ex, la), (!ex, lb)]
  cls : RowsAt w ac cc xss
  sp : SpI ex 10 la lb
  few : la.length + lb.length ≤ 9
  good : ∀ c ∈ xss, ∀ l ∈ c, l ≠ 0 ∧ isF l 9 = true
  sum : (xss.map List.length).sum ≤ 200
  len : xss.length ≤ 200
theorem FmI.keep {w w' : World} {q : Option Addr} {d : Nat} {ex : Bool} {la lb : List Int} {ac : Option Addr} {cc : Nat} {xss : List (List Int)} (h : FmI w q d ex la lb ac cc xss) (hb : Below w.heap.size w w') : FmI w' q d ex la lb ac cc xss :=
  ⟨h.rows.keep hb, h.cls.keep hb, h.sp, h.few, h.good, h.sum, h.len⟩
theorem fmI_free {w : World} {q : Option Addr} {d : Nat} {ex : Bool} {la lb : List Int} {ac : Option Addr} {cc : Nat} {xss : List (List Int)} (h : FmI w q d ex la lb ac cc xss) :
    Calls Tryd.prog 15 #[.agg #[.slice q 2 d, .int .i64 9, .slice ac xss.length cc]] w fun e w' => (∃ v, e = .returned v ∧ Row w' v (freeL [(ex, la), (!ex, lb)] xss)) ∧ Below w.heap.size w w' :=
  free_any 9 q d _ ac cc xss w h.rows h.cls (fun xs hx l hl => by have := (isB_of l (h.good xs hx l hl)).2; omega) (fun v hv => by rw [varsB_two] at hv; have := h.sp.rng v hv; omega) (by rw [varsB_two, List.length_append]; have := h.few; omega) (by rw [flat_sum]; have := h.sum; omega)
theorem fmI_norm {A : Nat → Addr} {w : World} {q : Option Addr} {d : Nat} {ex : Bool} {la lb : List Int} {ac : Option Addr} {cc : Nat} {xss : List (List Int)} (hS : Sents3 w A) (h : FmI w q d ex la lb ac cc xss) :
    Calls Tryd.prog 10 #[.agg #[.slice q 2 d, .int .i64 9, .slice ac xss.length cc]] w fun e w' => ∃ E ao lo co ai li ci am cm, e = .returned (.tuple #[.agg #[.bool E, .slice ao lo co, .slice ai li ci, .slice am (List.length xss) cm], .nilIface]) ∧ E = exG (gameL [(ex, la), (!ex, lb)] xss) ∧ Row w' (.slice ao lo co) (outG (gameL [(ex, la), (!ex, lb)] xss)) ∧ Below w.heap.size w w' := by
  refine (normG_any A 9 q d [(ex, la), (!ex, lb)] ac cc xss w hS (by omega) (by omega) h.rows h.cls (fun xs hx l hl => by have := (isB_of l (h.good xs hx l hl)).2; omega) (fun xs hx => by have := mem_len hx; have := h.sum; omega) (fun v hv => by rw [varsB_two] at hv; have := h.sp.rng v hv; omega) (by rw [varsB_two, List.length_append]; have := h.few; omega) (by rw [flat_sum]; have := h.sum; omega) (by simp) (by have := h.len; omega)).mono ?_
  rintro e w' ⟨gv, ev, rfl, hb, h1 | h1 | ⟨_, _, rfl, hg⟩⟩
  · obtain ⟨c, p, k, h0, h2, _⟩ := h1
    exact absurd (checkFF_same (sp_ok h.sp h.good h.sum h.len) h2).1 h0
  · have := (sp_game h.sp h.good).1
    omega
  · obtain ⟨vo, vi, am, cm, rfl, ⟨ao, co, rfl, go⟩, ⟨ai, ci, rfl, _⟩, _⟩ := hg
    exact ⟨_, ao, _, co, ai, _, ci, am, cm, rfl, rfl, ⟨_, _, rfl, go⟩, hb⟩
theorem sorted_step (l : List Int) (h : l.Pairwise (· < ·)) (i : Nat) (hi : i + 1 < l.length) : l.getD i 0 < l.getD (i + 1) 0 := by
  have := List.pairwise_iff_getElem.1 h i (i + 1) (by omega) hi (by omega)
  simpa [List.getD, hi, show i < l.length by omega] using this
end Go.Proofs.YtmohdhifilclbaaDoor
