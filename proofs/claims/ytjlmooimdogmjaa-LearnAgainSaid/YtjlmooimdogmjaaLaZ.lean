/- The measure of a trail that every lesson raises: an implied literal at place i weighs 2^(N-i), a decision 1. No conditions beyond those typed. · How LearnAgain ends (pure): at level 0 with a conflict nothing satisfies the clauses; with nothing unknown and all closed, the trail does. No conditions beyond those typed. · What LearnAgain's loop keeps: in memory the prop, the clauses told, the base that grows ('AgM'); of them, purely, 'AgP'. No conditions beyond those typed. · The walk of skolemlaw16.LearnAgain: it answers true. Conditions: the arguments read as 64-bit ints. -/
import Derived.Test.YtjlmooimdogmjaaLg38
import Derived.Test.YtjlmooimdogmjaaLg51
import Derived.Test.YtjlmooimdogmjaaLg33
import Derived.Test.YtjlmooimdogmjaaLg44
import Derived.BigQuiet
import Derived.Test.YtjlmooimdogmjaaLg07
set_option linter.unusedVariables false
set_option linter.unusedSimpArgs false
set_option linter.unusedVariables false
set_option linter.unusedSimpArgs false
namespace Go.Proofs.Ytjlmooimdogmjaa

def muR (N : Nat) (D : Nat → Bool) : Nat → Nat
  | 0 => 0
  | i + 1 => muR N D i + (if D i then 1 else 2 ^ (N - i))
theorem muR_step (N : Nat) (D : Nat → Bool) (i : Nat) : muR N D i + 1 ≤ muR N D (i + 1) ∧ muR N D (i + 1) ≤ muR N D i + 2 ^ (N - i) := by
  have h := Nat.one_le_two_pow (n := N - i)
  show _ ≤ muR N D i + (if D i then 1 else 2 ^ (N - i)) ∧ muR N D i + (if D i then 1 else 2 ^ (N - i)) ≤ _
  split <;> omega
theorem muR_mono (N : Nat) (D : Nat → Bool) {T T' : Nat} (h : T ≤ T') : muR N D T ≤ muR N D T' := by
  induction T' with
  | zero => rw [Nat.le_zero.1 h]; exact Nat.le_refl _
  | succ T' ih =>
    rcases Nat.lt_or_ge T (T' + 1) with h' | h'
    · have := (muR_step N D T').1
      have := ih (by omega)
      omega
    · rw [Nat.le_antisymm h h']; exact Nat.le_refl _
theorem muR_fewer (N : Nat) {D D' : Nat → Bool} {T : Nat} (h : ∀ i, i < T → D' i = true → D i = true) : muR N D T ≤ muR N D' T := by
  induction T with
  | zero => exact Nat.le_refl _
  | succ T ih =>
    have h1 := ih fun i hi => h i (by omega)
    have h2 := h T (Nat.lt_succ_self _)
    have h3 := Nat.one_le_two_pow (n := N - T)
    show muR N D T + (if D T then 1 else 2 ^ (N - T)) ≤ muR N D' T + (if D' T then 1 else 2 ^ (N - T))
    cases hd : D' T with
    | true => rw [h2 hd]; simp; exact h1
    | false => split <;> simp <;> omega
theorem pow_half {N T : Nat} (h : T + 1 ≤ N) : 2 ^ (N - (T + 1) + 1) = 2 ^ (N - T) ∧ 2 ^ (N - T + 1) = 2 * 2 ^ (N - T) := by
  refine ⟨by rw [show N - (T + 1) + 1 = N - T by omega], by rw [Nat.pow_succ, Nat.mul_comm]⟩
theorem muR_tail (N : Nat) {D : Nat → Bool} {s : Nat} (hd : D s = true) : ∀ T, s + 1 ≤ T → T ≤ N → muR N D T + 2 ^ (N - T + 1) ≤ muR N D s + 2 ^ (N - s) + 1 := by
  intro T
  induction T with
  | zero => intro h; omega
  | succ T ih =>
    intro h1 h2
    rcases Nat.lt_or_ge s T with h | h
    · have h3 := ih h (by omega)
      have h4 := (muR_step N D T).2
      obtain ⟨h5, h6⟩ := pow_half h2
      omega
    · have e : T = s := by omega
      subst e
      have h4 : muR N D (T + 1) = muR N D T + 1 := by
        show muR N D T + (if D T then 1 else 2 ^ (N - T)) = _
        rw [hd]; rfl
      obtain ⟨h5, _⟩ := pow_half h2
      omega
theorem muR_max (N : Nat) (D : Nat → Bool) : ∀ T, T ≤ N → muR N D T + 2 ^ (N - T + 1) ≤ 2 ^ (N + 1) := by
  intro T
  induction T with
  | zero => intro _; show 0 + 2 ^ (N - 0 + 1) ≤ _; simp
  | succ T ih =>
    intro h2
    have h3 := ih (by omega)
    have h4 := (muR_step N D T).2
    obtain ⟨h5, h6⟩ := pow_half h2
    omega
def muP (N : Nat) (p : Pr) : Nat := muR N (fun i => decide (i ∈ p.st)) p.tr.length
/-- A lesson raises it. -/
theorem muP_mend {N : Nat} {p q : Pr} {s : Nat} (hs : s ∈ p.st) (hl : s < p.tr.length) (hN : p.tr.length ≤ N) (hq : s + 1 ≤ q.tr.length) (hn : s ∉ q.st) (hsub : ∀ x ∈ q.st, x ∈ p.st) : muP N p < muP N q := by
  have h1 := muR_tail N (D := fun i => decide (i ∈ p.st)) (s := s) (decide_eq_true hs) p.tr.length hl hN
  have h2 := muR_mono N (fun i => decide (i ∈ q.st)) hq
  have h3 := muR_fewer N (D := fun i => decide (i ∈ p.st)) (D' := fun i => decide (i ∈ q.st)) (T := s) fun i _ h => decide_eq_true (hsub i (of_decide_eq_true h))
  have h4 : muR N (fun i => decide (i ∈ q.st)) (s + 1) = muR N (fun i => decide (i ∈ q.st)) s + 2 ^ (N - s) := by
    show _ + (if decide (s ∈ q.st) = true then 1 else 2 ^ (N - s)) = _
    rw [if_neg (by simp [hn])]
  have h5 := Nat.one_le_two_pow (n := N - p.tr.length)
  have h6 : 2 ^ (N - p.tr.length + 1) = 2 * 2 ^ (N - p.tr.length) := by rw [Nat.pow_succ, Nat.mul_comm]
  unfold muP
  omega
/-- So does a decision. -/
theorem muP_more {N : Nat} {p q : Pr} {m : List Int} {l : Int} (ht : q.tr = p.tr ++ l :: m) (hs : ∀ x, x < p.tr.length → (x ∈ q.st ↔ x ∈ p.st)) : muP N p < muP N q := by
  have h2 := muR_mono N (fun i => decide (i ∈ q.st)) (T := p.tr.length + 1) (T' := q.tr.length) (by rw [ht]; simp)
  have h3 := muR_fewer N (D := fun i => decide (i ∈ p.st)) (D' := fun i => decide (i ∈ q.st)) (T := p.tr.length) fun i hi h => decide_eq_true ((hs i hi).1 (of_decide_eq_true h))
  have h4 := (muR_step N (fun i => decide (i ∈ q.st)) p.tr.length).1
  unfold muP
  omega
theorem muP_lt {N : Nat} {p : Pr} (hN : p.tr.length ≤ N) : muP N p + 2 ≤ 2 ^ (N + 1) := by
  have h1 := muR_max N (fun i => decide (i ∈ p.st)) p.tr.length hN
  have h5 := Nat.one_le_two_pow (n := N - p.tr.length)
  have h6 : 2 ^ (N - p.tr.length + 1) = 2 * 2 ^ (N - p.tr.length) := by rw [Nat.pow_succ, Nat.mul_comm]
  unfold muP
  omega
/-- No more on the trail than variables. -/
theorem PrW.tr_n {p : Pr} (h : PrW p) : p.tr.length ≤ p.n := by
  have h1 : (p.tr.map plc).Nodup := List.pairwise_map.2 h.one
  have h2 : p.tr.map plc ⊆ (List.range p.n).map (· + 1) := fun x hx => by
    obtain ⟨l, hl, rfl⟩ := List.mem_map.1 hx
    have := h.rgt l hl
    exact List.mem_map.2 ⟨plc l - 1, List.mem_range.2 (by omega), by omega⟩
  have := h1.length_le_of_subset h2
  simpa using this
/-- A lesson, gone back, added and propagated. -/
theorem LesR.raises {p : Pr} {c0 : List Int} {u : Int} {r : List Int} {N : Nat} (h : LesR p c0 u r) (hw : PrW p) (hl : LvC p) (ht : topL p c0 = (p.st.length : Int)) (hst : p.st ≠ []) {cc : List Int} (hc : NrmP (u :: r) cc) {x : Int} {q : Pr} (hR : PrpR (addP (backP p (topL p r)) cc) x q) (hN : p.n ≤ N) : muP N p < muP N q ∧ LvC q := by
  obtain ⟨s, m, e1, e2, e3, e4, e5⟩ := h.mend hw hl ht hst hc hR
  have hs := hw.lt s e2
  refine ⟨muP_mend e2 hs (Nat.le_trans hw.tr_n hN) ?_ e4 fun x hx => ?_, e5⟩
  · rw [e1]; simp; omega
  · rw [e3] at hx; exact List.mem_of_mem_take hx
/-- A decision, propagated. -/
theorem PrpR.raises {p q : Pr} {l x : Int} {N : Nat} (hw : PrW p) (ho : decOk p l = true) (hR : PrpR (decdP p l) x q) : muP N p < muP N q := by
  obtain ⟨_, h2, h3, ⟨m, r, h4, _⟩, _⟩ := hR
  have e : decdP p l = { p with tr := p.tr ++ [l], rs := p.rs ++ [-1], st := p.st ++ [p.tr.length] } := by unfold decdP; rw [if_pos ho]
  rw [e] at h3 h4
  refine muP_more (l := l) (m := m) (by rw [h4]; simp) fun y hy => ?_
  rw [h3]
  show y ∈ p.st ++ [p.tr.length] ↔ _
  simp
  omega
end Go.Proofs.Ytjlmooimdogmjaa

set_option linter.unusedVariables false
set_option linter.unusedSimpArgs false
namespace Go.Proofs.Ytjlmooimdogmjaa

theorem wrg_zero {p : Pr} (hw : PrW p) (hst : p.st = []) {c : List Int} (hc : c ∈ clsP p) (hf : AllF p c) : Wrg (clsP p) [] := by
  refine .inl ⟨c, hc, fun k hk => ?_⟩
  obtain ⟨i, hi, e⟩ := List.getElem_of_mem (hf k hk)
  have e' : p.tr.getD i 0 = -k := by rw [← e]; simp [List.getD, hi]
  rw [← e']
  exact hw.fol0 [] (i + 1) i (Nat.lt_succ_self _) hi (by unfold lvI; rw [hst]; simp)
theorem all_true {p : Pr} (hw : PrW p) (hcl : CldP p) (ha : ∀ v : Nat, 1 ≤ v → v ≤ p.n → valP p (v : Int) ≠ 0) (hr : ∀ c ∈ clsP p, ∀ l ∈ c, 1 ≤ plc l ∧ plc l ≤ p.n) : ∀ c ∈ clsP p, ∃ l ∈ c, l ∈ p.tr := by
  intro c hc
  rcases hcl c hc with h | ⟨a, ha', b, hb, hne, h1, h2⟩
  · exact h
  · refine ⟨a, ha', ?_⟩
    obtain ⟨k1, k2⟩ := hr c hc a ha'
    have h3 := ha (plc a) k1 k2
    have h4 : absI a = a ∨ absI a = -a := by unfold absI; split <;> simp
    rw [plc_absI] at h3
    unfold valP at h3
    rcases h4 with e | e
    · rw [e, if_neg h1] at h3
      by_cases hm : a ∈ p.tr
      · exact hm
      · rw [if_neg hm] at h3; exact absurd rfl h3
    · rw [e, Int.neg_neg, if_neg h1] at h3
      by_cases hm : a ∈ p.tr
      · exact hm
      · rw [if_neg hm] at h3; exact absurd rfl h3
end Go.Proofs.Ytjlmooimdogmjaa

set_option linter.unusedVariables false
set_option linter.unusedSimpArgs false
namespace Go.Proofs.Ytjlmooimdogmjaa
open Go.RowKit

theorem RowsT.subU {w : World} {T U : Nat → Prop} {v : Value} {xss : List (List Int)} (h : RowsT w T v xss) (hs : ∀ i, T i → U i) : RowsT w U v xss := by
  obtain ⟨a, c, e, h1, h2, h3⟩ := h
  refine ⟨a, c, e, h1, h2, h3.imp id fun ⟨b, off, e, h4, h5, h6⟩ => ⟨b, off, e, h4, hs b h5, fun i hi => ?_⟩⟩
  obtain ⟨u, k1, k2⟩ := h6 i hi
  exact ⟨u, k1, k2.subU hs⟩

/-! ### Purely -/
structure AgP (p : Pr) (xs ys : List (List Int)) : Prop where
  n : p.n = 8
  rgt : ∀ c ∈ xs ++ ys, ∀ l ∈ c, 1 ≤ plc l ∧ plc l ≤ 8
  cls : ∀ c ∈ clsP p, ∃ c' ∈ xs ++ ys, ∀ x, x ∈ c' ↔ x ∈ c
  tell : ∀ c ∈ xs, (∃ c' ∈ clsP p, ∀ x, x ∈ c' ↔ x ∈ c) ∨ ∃ x ∈ c, -x ∈ c
  len : p.cl.length ≤ (xs ++ ys).length
section
variable {p q : Pr} {xs ys : List (List Int)}
theorem AgP.step (h : AgP p xs ys) (hc : q.cl = p.cl) (hn : q.n = p.n) : AgP q xs ys :=
  ⟨hn.trans h.n, h.rgt, by rw [clsP_eq hc]; exact h.cls, by rw [clsP_eq hc]; exact h.tell, by rw [hc]; exact h.len⟩
theorem AgP.prop {x : Int} (h : AgP p xs ys) (hR : PrpR p x q) : AgP q xs ys := h.step hR.2.1 hR.1
theorem AgP.back (h : AgP p xs ys) (k : Int) : AgP (backP p k) xs ys := by unfold backP; split <;> exact h.step rfl rfl
theorem AgP.dec (h : AgP p xs ys) (l : Int) : AgP (decdP p l) xs ys := by unfold decdP; split <;> exact h.step rfl rfl
/-- A lesson, told to both. -/
theorem AgP.more (h : AgP p xs ys) {c cc : List Int} (hc : NrmP c cc) (hr : ∀ l ∈ c, 1 ≤ plc l ∧ plc l ≤ 8) : AgP (addP p cc) xs (ys ++ [c]) := by
  refine ⟨h.n, fun d hd => ?_, fun d hd => ?_, fun d hd => ?_, ?_⟩
  · rw [← List.append_assoc] at hd
    rcases List.mem_append.1 hd with hd | hd
    · exact h.rgt d hd
    · simp at hd; subst hd; exact hr
  · rw [clsP_add] at hd
    rw [← List.append_assoc]
    rcases List.mem_append.1 hd with hd | hd
    · obtain ⟨c', k1, k2⟩ := h.cls d hd
      exact ⟨c', List.mem_append.2 (.inl k1), k2⟩
    · simp at hd; subst hd
      exact ⟨c, by simp, fun x => (hc.2 x).symm⟩
  · rw [clsP_add]
    exact (h.tell d hd).imp (fun ⟨c', k1, k2⟩ => ⟨c', List.mem_append.2 (.inl k1), k2⟩) id
  · show (p.cl ++ [some cc]).length ≤ _
    have := h.len
    simp only [List.length_append, List.length_singleton] at this ⊢
    omega
theorem AgP.wrg (h : AgP p xs ys) {D : List Int} (hw : Wrg (clsP p) D) : Wrg (xs ++ ys) D := hw.congr h.cls fun l hl => hl
/-- What the first loop tells. -/
structure AgT (p : Pr) (xs : List (List Int)) : Prop where
  n : p.n = 8
  tr : p.tr = []
  st : p.st = []
  cls : ∀ c ∈ clsP p, ∃ c' ∈ xs, ∀ x, x ∈ c' ↔ x ∈ c
  tell : ∀ c ∈ xs, (∃ c' ∈ clsP p, ∀ x, x ∈ c' ↔ x ∈ c) ∨ ∃ x ∈ c, -x ∈ c
  len : p.cl.length ≤ xs.length
theorem AgT.new : AgT (newP 8) [] := ⟨rfl, rfl, rfl, by simp [newP, clsP], by simp, by simp [newP]⟩
theorem AgT.add (h : AgT p xs) {c : List Int} {b : Bool} (hr : ∀ l ∈ c, 1 ≤ plc l ∧ plc l ≤ 8) (hA : AddR p c b q) : AgT q (xs ++ [c]) := by
  rcases hA with ⟨_, _, cc, hc, rfl⟩ | ⟨_, h0, rfl⟩
  · refine ⟨h.n, h.tr, h.st, fun d hd => ?_, fun d hd => ?_, ?_⟩
    · rw [clsP_add] at hd
      rcases List.mem_append.1 hd with hd | hd
      · obtain ⟨c', k1, k2⟩ := h.cls d hd
        exact ⟨c', List.mem_append.2 (.inl k1), k2⟩
      · simp at hd; subst hd
        exact ⟨c, by simp, fun x => (hc.2 x).symm⟩
    · rw [clsP_add]
      rcases List.mem_append.1 hd with hd | hd
      · exact (h.tell d hd).imp (fun ⟨c', k1, k2⟩ => ⟨c', List.mem_append.2 (.inl k1), k2⟩) id
      · simp at hd; subst hd
        exact .inl ⟨cc, by simp, hc.2⟩
    · show (p.cl ++ [some cc]).length ≤ _
      have := h.len
      simp only [List.length_append, List.length_singleton]
      omega
  · refine ⟨h.n, h.tr, h.st, fun d hd => ?_, fun d hd => ?_, ?_⟩
    · obtain ⟨c', k1, k2⟩ := h.cls d hd
      exact ⟨c', List.mem_append.2 (.inl k1), k2⟩
    · rcases List.mem_append.1 hd with hd | hd
      · exact h.tell d hd
      · simp at hd; subst hd
        right
        unfold addOk at h0
        have h1 := of_decide_eq_false h0
        by_cases hx : ∃ x ∈ d, -x ∈ d
        · exact hx
        · exfalso
          refine h1 fun x hx' => ⟨?_, fun hm => hx ⟨x, hx', hm⟩⟩
          rw [h.n]
          exact hr x hx'
    · have := h.len
      simp only [List.length_append, List.length_singleton]
      omega
theorem AgT.start (h : AgT p xs) (hr : ∀ c ∈ xs, ∀ l ∈ c, 1 ≤ plc l ∧ plc l ≤ 8) : AgP p xs [] := ⟨h.n, by simpa using hr, by simpa using h.cls, h.tell, by simpa using h.len⟩

/-- A clause that came to be wrong while something is decided has a literal. -/
theorem wrong_ne {p : Pr} (hw : PrW p) (hl : LvC p) (hst : p.st ≠ []) {k : Nat} {c : List Int} (hk : p.cl.getD k none = some c) : c ≠ [] := fun e => by
  subst e
  have hpos : 0 < p.st.length := List.length_pos_iff.2 hst
  obtain ⟨l, hl, _⟩ := (hl p.st[0] (List.getElem_mem hpos)).not_false (fun x h1 h2 => hw.not_both (List.mem_of_mem_take h1) (List.mem_of_mem_take h2)) (mem_clsP.2 ⟨k, hk⟩)
  cases hl

/-- The model that the trail is. -/
def agM (p : Pr) : List Bool := false :: (List.range 8).map fun (i : Nat) => decide (valP p ((i : Int) + 1) = 1)
theorem agM_at (p : Pr) {v : Nat} (h1 : 1 ≤ v) (h2 : v ≤ 8) : (agM p).getD v false = decide (valP p (v : Int) = 1) := by
  obtain ⟨i, rfl⟩ : ∃ i, v = i + 1 := ⟨v - 1, by omega⟩
  unfold agM
  have : i < 8 := by omega
  simp [List.getD, this]
theorem AgP.sat (h : AgP p xs ys) (hw : PrW p) (hcl : CldP p) (ha : ∀ v : Nat, 1 ≤ v → v ≤ 8 → valP p (v : Int) ≠ 0) : ofL xs (agM p) = true := by
  have hv : ∀ l : Int, 1 ≤ plc l → plc l ≤ 8 → (l ∈ p.tr → holdsL (agM p) l = true) ∧ (-l ∈ p.tr → holdsL (agM p) (-l) = true) := by
    have key : ∀ l : Int, 1 ≤ plc l → plc l ≤ 8 → l ∈ p.tr → holdsL (agM p) l = true := by
      intro l h1 h2 hm
      have hlen : (agM p).length = 9 := by simp [agM]
      unfold holdsL
      rw [agM_at p h1 h2, hlen, decide_eq_true h1, decide_eq_true (show plc l < 9 by omega)]
      simp only [Bool.and_self, Bool.true_and, beq_iff_eq, decide_eq_decide]
      have h3 := plc_absI l
      rcases Int.lt_or_le 0 l with hp | hp
      · have e : (plc l : Int) = l := by rw [h3]; unfold absI; split <;> omega
        rw [e]
        exact ⟨fun _ => hp, fun _ => hw.val_true.2 hm⟩
      · have e : (plc l : Int) = -l := by rw [h3]; unfold absI; split <;> omega
        rw [e]
        constructor
        · intro hv
          exact (hw.not_both (hw.val_true.1 hv) (by simpa using hm)).elim
        · intro hp2; omega
    exact fun l h1 h2 => ⟨key l h1 h2, key (-l) (by rw [plc_negate]; exact h1) (by rw [plc_negate]; exact h2)⟩
  unfold ofL
  rw [List.all_eq_true]
  intro c hc
  show ofC (agM p) c = true
  have hr := h.rgt c (List.mem_append.2 (.inl hc))
  suffices hs : ∃ l ∈ c, holdsL (agM p) l = true by
    unfold ofC
    rw [List.any_eq_true]
    exact hs
  rcases h.tell c hc with ⟨c', h1, h2⟩ | ⟨x, h1, h2⟩
  · obtain ⟨l, hl, ht⟩ := all_true hw hcl (fun v k1 k2 => ha v k1 (by rw [← h.n]; exact k2)) (fun c hc l hl => (hw.cls c hc).2 l hl |>.1) c' h1
    have hl' := (h2 l).1 hl
    exact ⟨l, hl', (hv l (hr l hl').1 (hr l hl').2).1 ht⟩
  · have hx := hr x h1
    have h3 := ha (plc x) hx.1 hx.2
    have h4 := plc_absI x
    have h5 : absI x = x ∨ absI x = -x := by unfold absI; split <;> simp
    have h6 : x ∈ p.tr ∨ -x ∈ p.tr := by
      unfold valP at h3
      rw [h4] at h3
      rcases h5 with e | e <;> rw [e] at h3
      · by_cases hm : x ∈ p.tr
        · exact .inl hm
        · rw [if_neg hm] at h3
          by_cases hm2 : -x ∈ p.tr
          · exact .inr hm2
          · rw [if_neg hm2] at h3; exact absurd rfl h3
      · by_cases hm : -x ∈ p.tr
        · exact .inr hm
        · rw [if_neg hm, Int.neg_neg] at h3
          by_cases hm2 : x ∈ p.tr
          · exact .inl hm2
          · rw [if_neg hm2] at h3; exact absurd rfl h3
    rcases h6 with h6 | h6
    · exact ⟨x, h1, (hv x hx.1 hx.2).1 h6⟩
    · exact ⟨-x, h2, (hv x hx.1 hx.2).2 h6⟩
end

/-- Its first c places. -/
def agL (p : Pr) (c : Nat) : List Bool := false :: (List.range (c - 1)).map fun (i : Nat) => decide (valP p ((i : Int) + 1) = 1)
theorem agL_snoc (p : Pr) {c : Nat} (hc : 1 ≤ c) {z : Int} (hz : valP p (c : Int) = z) : agL p (c + 1) = agL p c ++ [z == 1] := by
  obtain ⟨t, rfl⟩ : ∃ t, c = t + 1 := ⟨c - 1, by omega⟩
  subst hz
  unfold agL
  rw [show t + 1 + 1 - 1 = t + 1 from rfl, show t + 1 - 1 = t from rfl, List.range_succ, List.map_append]
  have e : decide (valP p ((t : Int) + 1) = 1) = (valP p ((t + 1 : Nat) : Int) == 1) := by
    rw [show ((t + 1 : Nat) : Int) = (t : Int) + 1 by omega, Bool.eq_iff_iff, decide_eq_true_iff, beq_iff_eq]
  rw [← e]
  rfl
theorem agL_nine (p : Pr) : agL p 9 = agM p := rfl
theorem agL_len (p : Pr) {c : Nat} (hc : 1 ≤ c) : (agL p c).length = c := by unfold agL; simp; omega
/-- A variable that is unknown may be decided, either way. -/
theorem dec_ok {p : Pr} {j : Nat} {l : Int} (h1 : 1 ≤ j) (h2 : j ≤ p.n) (hz : valP p (j : Int) = 0) (hl : l = (j : Int) ∨ l = -(j : Int)) : decOk p l = true := by
  have hp : plc (j : Int) = j ∧ plc (-(j : Int)) = j := ⟨plc_nat, by rw [plc_negate]; exact plc_nat⟩
  have h3 : (j : Int) ∉ p.tr ∧ -(j : Int) ∉ p.tr := by
    unfold valP at hz
    by_cases hm : (j : Int) ∈ p.tr
    · rw [if_pos hm] at hz; exact absurd hz (by decide)
    · rw [if_neg hm] at hz
      by_cases hm2 : -(j : Int) ∈ p.tr
      · rw [if_pos hm2] at hz; exact absurd hz (by decide)
      · exact ⟨hm, hm2⟩
  unfold decOk
  rw [Bool.and_eq_true, decide_eq_true_iff, decide_eq_true_iff]
  rcases hl with rfl | rfl
  · exact ⟨by rw [hp.1]; exact ⟨h1, h2⟩, hz⟩
  · refine ⟨by rw [hp.2]; exact ⟨h1, h2⟩, ?_⟩
    unfold valP
    rw [if_neg h3.2, Int.neg_neg, if_neg h3.1]

/-! ### In memory -/
theorem own_brow {w : World} {B : Nat} {v : Value} {n : Nat} {bs : List Bool} (h : w.ownsRow B 4 1 v n (bs.map Value.bool)) : BRow w v bs := by
  have hl : bs.length = n := by have := h.1; simpa using this
  have hc := h
  rcases h.2 with ⟨e0, e1⟩ | ⟨g, cap, cur, e0, _, hh, h1, h2, _⟩
  · exact ⟨none, 0, by rw [e0, hl, e1], by omega, by unfold maxLen; omega, .inl (by omega)⟩
  · subst e0
    have hg : g < w.heap.size := by
      rcases Nat.lt_or_ge g w.heap.size with h' | h'
      · exact h'
      · rw [Array.getElem?_eq_none h'] at hh; cases hh
    refine ⟨_, cap, by rw [hl], by omega, h2, .inr ⟨g, 0, rfl, hg, fun i hi => ?_⟩⟩
    have := hc.cells (g := g) rfl i (.bool (bs.getD i false)) (by rw [List.getElem?_map]; simp [List.getD, hi])
    rw [show (⟨g, 0, none⟩ : Addr).add i = ⟨g, 0 + i, none⟩ by unfold Addr.add; split <;> simp_all] at this
    exact this
theorem infoBoA : (Try.prog.info? 4).map (fun i => (i.zero, i.size, i.bytes)) = some (some (.bool false), 1, 1) := by kernel_rfl

structure AgM (w0 : World) (T : Nat → Prop) (W : World) (v : Value) (p : Pr) (g : Nat) (cv : Value) (xs ys : List (List Int)) : Prop where
  pt : PT w0 (fun i => T i ∨ i = g) v p W
  rows : RowsT W T cv xs
  g0 : w0.heap.size ≤ g
  ng : ¬ T g
  b0 : W.cell? ⟨g, 0, none⟩ = some (.int .i64 8)
  bc : ∃ a c, W.cell? ⟨g, 1, none⟩ = some (.slice a (xs ++ ys).length c) ∧ RowsT W T (.slice a (xs ++ ys).length c) (xs ++ ys)
  fr : W.frozen? ⟨g, 1, none⟩ = false
section
variable {w0 W W' : World} {T : Nat → Prop} {v : Value} {p p' : Pr} {g : Nat} {cv : Value} {xs ys : List (List Int)}
theorem AgM.lt (h : AgM w0 T W v p g cv xs ys) : (∀ i, T i → i < W.heap.size ∧ i ≠ g) ∧ g < W.heap.size :=
  ⟨fun i hi => ⟨h.pt.tlt i (.inl hi), fun e => h.ng (e ▸ hi)⟩, h.pt.tlt g (.inr rfl)⟩
theorem AgM.call (h : AgM w0 T W v p g cv xs ys) (hP : PT w0 (fun i => T i ∨ i = g) v p' W') (hk : Kp (fun i => T i ∨ i = g) W W') : AgM w0 T W' v p' g cv xs ys := by
  have hg := hk.blk g (.inr rfl)
  have hT : Kp T W W' := hk.sub fun i hi => .inl hi
  obtain ⟨a, c, h1, h2⟩ := h.bc
  exact ⟨hP, h.rows.keep hT, h.g0, h.ng, (cell_blk hg 0).trans h.b0, ⟨a, c, (cell_blk hg 1).trans h1, h2.keep hT⟩, (froz_blk hg 1).trans h.fr⟩
theorem AgM.keep (h : AgM w0 T W v p g cv xs ys) (hb : Below W.heap.size W W') : AgM w0 T W' v p g cv xs ys := h.call (h.pt.keep hb) (Kp.below hb h.pt.tlt)
theorem AgM.more (h : AgM w0 T W v p g cv xs ys) (hb : Below W.heap.size W W') : AgM w0 (fun i => T i ∨ NewB W W' i) W' v p g cv xs ys := by
  have k := h.keep hb
  obtain ⟨a, c, h1, h2⟩ := k.bc
  refine ⟨h.pt.more hb fun i hi => ?_, k.rows.subU fun i hi => .inl hi, h.g0, fun hn => ?_, k.b0, ⟨a, c, h1, h2.subU fun i hi => .inl hi⟩, k.fr⟩
  · rcases hi with (hi | hi) | hi
    · exact .inl (.inl hi)
    · exact .inr hi
    · exact .inl (.inr hi)
  · rcases hn with hn | hn
    · exact h.ng hn
    · exact absurd h.lt.2 (Nat.not_lt.2 hn.1)
theorem AgM.bel (h : AgM w0 T W v p g cv xs ys) : Below w0.heap.size w0 W := h.pt.bel

theorem rgt8_of {l : Int} (h : l ≠ 0 ∧ isF l 8 = true) : 1 ≤ plc l ∧ plc l ≤ 8 := by
  have h2 := h.2
  unfold isF at h2
  simp at h2
  have h3 := plc_absI l
  unfold absI at h3
  split at h3 <;> omega
theorem take_snocC (l : List (List Int)) (k : Nat) (h : k < l.length) : l.take (k + 1) = l.take k ++ [l.getD k []] := by
  rw [List.take_succ_eq_append_getElem h]; simp [List.getD, h]
theorem RowsT.at {w : World} {T : Nat → Prop} {a : Option Addr} {n cap : Nat} {xss : List (List Int)} (h : RowsT w T (.slice a n cap) xss) {k : Nat} (hk : k < xss.length) : ∃ b off u, a = some ⟨b, off, none⟩ ∧ b < w.heap.size ∧ w.cell? ⟨b, off + k, none⟩ = some u ∧ RowT w T u (xss.getD k []) ∧ IsS u := by
  obtain ⟨a', c', e, _, _, h3⟩ := h
  injection e with e1 _ _
  subst e1
  obtain ⟨b, off, e2, h4, _, h6⟩ := h3.resolve_left (by omega)
  obtain ⟨u, h7, h8⟩ := h6 k hk
  obtain ⟨a', c', e', _⟩ := id h8
  exact ⟨b, off, u, e2, h4, h7, h8, a', _, c', e'⟩
/-- Its beginning: the base's cell just laid. -/
theorem AgM.start {W0 : World} {a : Option Addr} {c : Nat} (h : PT w0 (fun _ => False) v p W0) (hb : Below W0.heap.size W0 W) (hr : RowsT W (NewB W0 W) (.slice a xs.length c) xs) : AgM w0 (NewB W0 W) (W.alloc (.cells #[.int .i64 8, .slice a xs.length c] 37)) v p W.heap.size (.slice a xs.length c) xs [] := by
  have hs : (W.alloc (.cells #[.int .i64 8, .slice a xs.length c] 37)).heap.size = W.heap.size + 1 := Array.size_push _
  have hA : Below W.heap.size W (W.alloc (.cells #[.int .i64 8, .slice a xs.length c] 37)) := (Below.refl _ _).alloc (Nat.le_refl _) _
  have hbk : (W.alloc (.cells #[.int .i64 8, .slice a xs.length c] 37)).heap[W.heap.size]? = some (.cells #[.int .i64 8, .slice a xs.length c] 37) := heap_alloc_new W _
  have hk : Kp (NewB W0 W) W (W.alloc (.cells #[.int .i64 8, .slice a xs.length c] 37)) := Kp.below hA fun i hi => hi.2
  refine ⟨h.more (hb.trans (hA.mono hb.size)) fun i hi => .inr ?_, hr.keep hk, Nat.le_trans h.bel.size hb.size, fun hn => Nat.lt_irrefl _ hn.2, by unfold World.cell?; rw [hbk]; rfl, ⟨a, c, by rw [List.append_nil]; unfold World.cell?; rw [hbk]; rfl, by rw [List.append_nil]; exact hr.keep hk⟩, by unfold World.frozen?; rw [hbk]; rfl⟩
  rcases hi with hi | rfl
  · exact ⟨hi.1, by rw [hs]; exact Nat.lt_succ_of_lt hi.2⟩
  · exact ⟨hb.size, by rw [hs]; exact Nat.lt_succ_self _⟩

theorem AgM.implied (h : AgM w0 T W v p g cv xs ys) (u : Value) (zs : List Int) (hu : Row W u zs) (hx : ∀ c ∈ xs ++ ys, ∀ l ∈ c, 1 ≤ plc l ∧ plc l ≤ 8) (hy : ∀ l ∈ zs, 1 ≤ plc l ∧ plc l ≤ 8) (hl : zs.length ≤ 1000000) (hW : Wrg (xs ++ ys) (zs.map fun l => -l)) : Calls Try.prog 16 #[.pointer (some ⟨g, 0, none⟩), u] W fun e w' => e = .returned (.bool true) ∧ Below W.heap.size W w' := by
  obtain ⟨a, c, h1, h2⟩ := h.bc
  obtain ⟨a', c', e, hr⟩ := h2.rows
  injection e with e1 _ e3
  subst e1; subst e3
  exact implied_any g 8 a c (xs ++ ys) u zs W h.lt.2 h.b0 h1 (by decide) (by decide) hr hu (fun c hc l hl => by have := hx c hc l hl; omega) (fun l hl => by have := hy l hl; omega) hl hW

theorem AgM.add (h : AgM w0 T W v p g cv xs ys) (u : Value) (zs : List Int) (hu : RowT W T u zs) (hy : ∀ l ∈ zs, 1 ≤ plc l ∧ plc l ≤ 8) (hl : zs.length ≤ 1000000) (hxl : (xs ++ ys).length ≤ 900) : Calls Try.prog 21 #[.pointer (some ⟨g, 0, none⟩), u] W fun e w' => e = .returned (.bool true) ∧ AgM w0 (fun i => T i ∨ NewB W w' i) w' v p g cv xs (ys ++ [zs]) ∧ Kp T W w' := by
  obtain ⟨a, c, h1, h2⟩ := h.bc
  refine (radd_gen T g 8 a c (xs ++ ys) u zs W h.lt.2 h.b0 h1 h.fr (by decide) (by decide) h.lt.1 h2 hu (fun l hl => by have := hy l hl; omega) hl hxl).mono ?_
  rintro e w' ⟨rfl, hc, k0, kf, a', c', k1, k2⟩
  have hT : Kp T W w' := ⟨hc.size, fun i hi => hc.block i (h.lt.1 i hi).1 (by simp; exact (h.lt.1 i hi).2)⟩
  refine ⟨rfl, ⟨?_, (h.rows.keep hT).subU fun i hi => .inl hi, h.g0, fun hn => ?_, k0, ⟨a', c', ?_, ?_⟩, kf⟩, hT⟩
  · have hpc := h.pt.chg hc fun i hi => by simp at hi; subst hi; exact ⟨.inr rfl, h.g0⟩
    obtain ⟨S, s1, s2, s3, s4⟩ := h.pt
    refine ⟨S, s1.keep hc fun i hi hr => (s3 i hi).2 (by simp at hr; exact .inr hr), hpc.bel, fun i hi => ⟨(s3 i hi).1, fun hn => ?_⟩, fun i hi => ?_⟩
    · rcases hn with (hn | hn) | hn
      · exact (s3 i hi).2 (.inl hn)
      · exact absurd (s1.lt i hi) (Nat.not_lt.2 hn.1)
      · exact (s3 i hi).2 (.inr hn)
    · rcases hi with (hi | hi) | hi
      · exact Nat.lt_of_lt_of_le (s4 i (.inl hi)) hc.size
      · exact hi.2
      · exact Nat.lt_of_lt_of_le (s4 i (.inr hi)) hc.size
  · rcases hn with hn | hn
    · exact h.ng hn
    · exact absurd h.lt.2 (Nat.not_lt.2 hn.1)
  · rw [← List.append_assoc]; exact k1
  · rw [← List.append_assoc]; exact k2

theorem AgM.prop (h : AgM w0 T W v p g cv xs ys) (hc : p.cl.length ≤ 1000) : Calls Try.prog 19 #[v] W fun e w' => ∃ x p', PrpR p x p' ∧ e = .returned (.int .i64 x) ∧ AgM w0 T w' v p' g cv xs ys :=
  (pt_prop h.pt hc).mono fun e w' ⟨x, p', hR, he, hP, hK⟩ => ⟨x, p', hR, he, h.call hP hK⟩
theorem AgM.dec (h : AgM w0 T W v p g cv xs ys) (l : Int) (h1 : -9223372036854775807 ≤ l) (h2 : l ≤ 9223372036854775807) : Calls Try.prog 28 #[v, .int .i64 l] W fun e w' => e = .returned (.bool (decOk p l)) ∧ AgM w0 T w' v (decdP p l) g cv xs ys :=
  (pt_dec h.pt l h1 h2).mono fun e w' ⟨he, hP, hK⟩ => ⟨he, h.call hP hK⟩
end
end Go.Proofs.Ytjlmooimdogmjaa

set_option linter.unusedVariables false
set_option linter.unusedSimpArgs false
namespace Go.Proofs.Ytjlmooimdogmjaa
open Go.RowKit

/-- What the main loop keeps. -/
def AgI (w1 W : World) (v : Value) (g : Nat) (cv : Value) (xss : List (List Int)) (m : Nat) : Prop :=
  ∃ (p : Pr) (ys : List (List Int)) (T : Nat → Prop), AgM w1 T W v p g cv xss ys ∧ AgP p xss ys ∧ ys.length ≤ m ∧ m ≤ 511 ∧ ∀ x q, PrpR p x q → m ≤ muP 8 q ∧ LvC q

set_option maxRecDepth 8000 in
set_option maxHeartbeats 8000000 in
theorem lawLa (la : Option Addr) (lc : Nat) (ls : List Int) (ov : Value) (os : List Int) (w : World) (hl : RowAt w la lc ls) (ho : Row w ov os)
    (hli : ∀ y ∈ ls, -9223372036854775808 ≤ y ∧ y ≤ 9223372036854775807) (hoi : ∀ y ∈ os, -9223372036854775808 ≤ y ∧ y ≤ 9223372036854775807) :
    Calls Try.prog 7 #[.slice la ls.length lc, ov] w fun e w' => e = .returned (.bool true) ∧ Below w.heap.size w w' := by
  have HRL : Hid (∀ V, Below w.heap.size w V → RowAt V la lc ls) := fun V hV => (row_at (Row.keep ⟨la, lc, rfl, hl⟩ hV)).2
  have HRO : Hid (∀ V, Below w.heap.size w V → Row V ov os) := fun V hV => ho.keep hV
  obtain ⟨oa, oc, rfl, ho1, ho2, ho3⟩ := ho
  unfold maxLen at ho2
  have HOX := Lib.hid ho3
  have HLI := Lib.hid hli
  have HOI : Hid (∀ k, k < os.length → -9223372036854775808 ≤ os.getD k 0 ∧ os.getD k 0 ≤ 9223372036854775807) := fun k hk => hoi _ (getD_mem hk)
  clear hli hoi hl ho3
  by_cases g1 : 120 < ls.length
  · have d1 : decide ((120 : Int) < ((ls.length : Nat) : Int)) = true := decide_eq_true (by omega)
    clear g1
    go_enter Try.func7, Try.ntmps7
    go_wp2_with fail
    refine (first16_any _).mono ?_
    rintro e w1 ⟨rfl, hb⟩
    go_wp2_with fail
    go_ret
    exact ⟨rfl, hb⟩
  have d1 : decide ((120 : Int) < ((ls.length : Nat) : Int)) = false := decide_eq_false (by omega)
  by_cases g2 : 40 < os.length
  · have d2 : decide ((40 : Int) < ((os.length : Nat) : Int)) = true := decide_eq_true (by omega)
    clear g1 g2
    go_enter Try.func7, Try.ntmps7
    go_wp2_with fail
    refine (first16_any _).mono ?_
    rintro e w1 ⟨rfl, hb⟩
    go_wp2_with fail
    go_ret
    exact ⟨rfl, hb⟩
  have d2 : decide ((40 : Int) < ((os.length : Nat) : Int)) = false := decide_eq_false (by omega)
  have HNW := Lib.hid (fun V => pnew_any V 8 (by decide) (by decide))
  have HMK : Hid (∀ V, Below w.heap.size w V → Calls Try.prog 29 #[.slice la ls.length lc, .int .i64 8] V fun e w' => ∃ fa fc xss, e = .returned (.slice fa xss.length fc) ∧ RowsT w' (NewB V w') (.slice fa xss.length fc) xss ∧ (∀ c ∈ xss, ∀ l ∈ c, 1 ≤ plc l ∧ plc l ≤ 8) ∧ (∀ c ∈ xss, InW c ∧ c.length ≤ 1000) ∧ xss.length ≤ 120 ∧ Below V.heap.size V w') := fun V hV => by
    refine (makeCl_any la lc ls 8 V (by decide) (by decide) (HRL.out V hV) HLI.out (by omega)).mono ?_
    rintro e w3 ⟨⟨fv, xss, rfl, hcr, hx1, hx2, hx3⟩, hb3⟩
    have hr : RowsT w3 (NewB V w3) fv xss := hcr.rowsT fun i h1 h2 => ⟨h1, h2⟩
    obtain ⟨fa, fc, rfl, h1, h2, h3⟩ := hr
    refine ⟨fa, fc, xss, rfl, ⟨fa, fc, rfl, h1, h2, h3⟩, fun c hc l hl => ?_, fun c hc => ⟨made_in (by decide) hx1 c hc, by have := made_len hx2 c hc; omega⟩, by omega, hb3⟩
    have := hx1 c hc l hl
    exact rgt8_of this
  clear g1 g2 HLI
  go_enter Try.func7, Try.ntmps7
  go_wp2_with fail
  refine (first16_any _).mono ?_
  rintro e w1 ⟨rfl, hb⟩
  have HB1 := Lib.hid hb
  clear hb
  go_wp2_with fail
  refine (HNW.out _).mono ?_
  rintro e w2 ⟨v, S, rfl, hs, hS, hb2⟩
  have hp2 : PT w1 (fun _ => False) v (newP 8) w2 := PSt.pt ⟨S, hs, hb2, hS⟩
  obtain ⟨q, rfl⟩ := hp2.ptr
  have HP2 := Lib.hid hp2
  have HMK2 := Lib.hid (HMK.out _ (HB1.out.trans (hb2.mono HB1.out.size)))
  clear hs hS hb2 hp2 HNW HMK HRL
  go_wp2_with fail
  refine HMK2.out.mono ?_
  rintro e w3 ⟨fa, fc, xss, rfl, hr3, hx1, hx2, hx3, hb3⟩
  have hM0 := AgM.start HP2.out hb3 hr3
  have HX1 := Lib.hid hx1
  have HX2 := Lib.hid hx2
  have hf3 : fc ≤ 9223372036854775807 := by
    obtain ⟨_, _, e, _, h, _⟩ := hr3
    injection e with _ _ e
    subst e
    unfold maxLen at h
    omega
  have hf2 : xss.length ≤ fc := by
    obtain ⟨_, _, e, h, _⟩ := hr3
    injection e with _ _ e
    subst e
    exact h
  clear hr3 hx1 hx2 hb3 HMK2 HP2
  generalize hL : xss.length = N at *
  have HL := Lib.hid hL; clear hL
  generalize hO : os.length = O at *
  have HO := Lib.hid hO; clear hO
  have HT0 : Hid (AgT (newP 8) (xss.take 0)) := by unfold Hid; rw [List.take_zero]; exact AgT.new
  generalize newP 8 = p0 at *
  go_wp2_with fail
  generalize w3.alloc (.cells #[.int .i64 8, .slice fa N fc] 37) = w4 at *
  generalize w3.heap.size = g at *
  obtain ⟨T0, hT0⟩ : ∃ T0, NewB w2 w3 = T0 := ⟨_, rfl⟩
  rw [hT0] at hM0
  have HM0 := Lib.hid hM0
  clear hT0 hM0
  go_loopw [9] (fun iv W => ∃ (j : Nat) (p : Pr), j ≤ N ∧ iv = .int .i64 (j : Int) ∧ AgM w1 T0 W (.pointer (some ⟨q, 0, none⟩)) p g (.slice fa N fc) xss [] ∧ AgT p (xss.take j)) (fun iv _ => N - (intOf iv).toNat)
  case atStart => exact ⟨0, p0, Nat.zero_le _, rfl, HM0.out, HT0.out⟩
  case round =>
    obtain ⟨j, p, hj, rfl, hM, hT⟩ := hrel
    clear HM0 HT0
    have HM := Lib.hid hM
    have HT := Lib.hid hT
    clear hM hT
    by_cases hlt : j < N
    · as_aux_lemma =>
      obtain ⟨b, off, rv, ha, hbl, y0, hrow, hsl⟩ := HM.out.rows.at (k := j) (by rw [HL.out]; exact hlt)
      subst ha
      have hmem := getD_memL (l := xss) (i := j) (by rw [HL.out]; exact hlt)
      have htl := HT.out.len
      have htk : (xss.take j).length = j := by rw [List.length_take, HL.out]; omega
      have HAD := Lib.hid (pt_add HM.out.pt rv _ hrow.row (HX2.out _ hmem).1 (HX2.out _ hmem).2 (by omega))
      have HXR := Lib.hid (HX1.out _ hmem)
      obtain ⟨ra, rn, rc, rfl⟩ := hsl
      clear hmem hrow htl htk
      go_wp2_with fail
      refine HAD.out.mono ?_
      rintro e w5 ⟨y, bb, p', hAR, _, rfl, hP5, hK5⟩
      have HM5 := Lib.hid (HM.out.call hP5 hK5)
      have HT5 : Hid (AgT p' (xss.take (j + 1))) := by unfold Hid; rw [take_snocC xss j (by rw [HL.out]; exact hlt)]; exact HT.out.add HXR.out hAR
      clear hAR hP5 hK5 HAD
      go_wp2_with fail
      go_roundw
      case rel => exact ⟨j + 1, p', by omega, by go_num, HM5.out, HT5.out⟩
      case measure => go_light; simp [intOf]; omega
    · have e1 : decide ((j : Int) < (N : Int)) = false := decide_eq_false (by omega)
      have e2 : decide (j < N) = false := decide_eq_false hlt
      have HI0 : Hid (AgI w1 wr (.pointer (some ⟨q, 0, none⟩)) g (.slice fa N fc) xss 0) := by
        have hT : AgT p xss := by
          have := HT.out
          rwa [List.take_of_length_le (by rw [HL.out]; omega)] at this
        exact ⟨p, [], T0, HM.out, hT.start HX1.out, Nat.le_refl _, by omega, fun x q' hR => ⟨Nat.zero_le _, fun s hs => by rw [hR.2.2.1, hT.st] at hs; cases hs⟩⟩
      clear HM HT hlt hj
      go_wp2_with fail
      clear e1 e2
      go_loopw [10, 11, 12, 13, 14, 15, 16, 17] (fun av nv _ _ _ _ _ _ W => ∃ (m k : Nat), m ≤ 511 ∧ k ≤ m ∧ nv = .int .i64 (m : Int) ∧ av = .int .i64 (k : Int) ∧ AgI w1 W (.pointer (some ⟨q, 0, none⟩)) g (.slice fa N fc) xss m) (fun _ nv _ _ _ _ _ _ _ => 512 - (intOf nv).toNat)
      case atStart => exact ⟨0, 0, by omega, Nat.le_refl _, rfl, rfl, HI0.out⟩
      case round =>
        obtain ⟨m, k, hm, hk, rfl, rfl, p, ys, T, hM, hP, hy, _, hI⟩ := hrel
        clear HI0
        have HPR := Lib.hid (hM.prop (by have := hP.len; rw [List.length_append, HL.out] at this; omega))
        have HM := Lib.hid hM
        have HP := Lib.hid hP
        have HI := Lib.hid hI
        clear hM hP hI
        have d3 : decide ((m : Int) < 3000) = true := decide_eq_true (by omega)
        have d4 : decide (m < 3000) = true := decide_eq_true (by omega)
        have HMK := Lib.hid (And.intro hm (And.intro hk hy))
        clear hm hk hy
        go_wp2_with fail
        clear d3 d4
        refine HPR.out.mono ?_
        rintro e w5 ⟨x, p5, hR, rfl, hM5⟩
        obtain ⟨hmu, hlv⟩ := HI.out x p5 hR
        obtain ⟨hm, hk, hy⟩ := HMK.out
        have hP5 := HP.out.prop hR
        have hw5 := hM5.pt.wf
        have hmx := muP_lt (N := 8) (p := p5) (by have := hw5.tr_n; rw [hP5.n] at this; exact this)
        have hm510 : m ≤ 510 := by
          rw [show (2 : Nat) ^ (8 + 1) = 512 from rfl] at hmx
          omega
        have HM5 := Lib.hid hM5
        have HP5 := Lib.hid hP5
        have HMU := Lib.hid hmu
        have HLV := Lib.hid hlv
        have HW5 := Lib.hid hw5
        have HBE : Hid (Below w.heap.size w w5) := HB1.out.trans (hM5.bel.mono HB1.out.size)
        have HR6 := Lib.hid hR.2.2.2.2.2
        have HMK := Lib.hid (And.intro hm510 (And.intro hk hy))
        clear hM5 hP5 hmu hlv hw5 hmx hR HPR HM HP HI hm hk hy hm510
        rcases HR6.out with ⟨rfl, hcl⟩ | ⟨i, c, rfl, hkc, hf⟩
        · have HCL := Lib.hid hcl
          clear hcl HR6
          go_wp2_with fail
          go_loopw [15] (fun vv W => ∃ j : Nat, 1 ≤ j ∧ j ≤ 9 ∧ vv = .int .i64 (j : Int) ∧ Below w5.heap.size w5 W ∧ Hid (∀ v : Nat, 1 ≤ v → v < j → valP p5 (v : Int) ≠ 0)) (fun vv _ => 9 - (intOf vv).toNat)
          case atStart => exact ⟨1, Nat.le_refl _, by omega, rfl, Below.refl _ _, fun v h1 h2 => by omega⟩
          case round =>
            obtain ⟨j, hj1, hj2, rfl, hbV, HAL⟩ := hrel
            have HBV := Lib.hid hbV
            have HMV := Lib.hid (HM5.out.keep hbV)
            clear hbV
            by_cases hlt : j ≤ 8
            · have d1 : decide ((j : Int) ≤ 8) = true := decide_eq_true (by omega)
              have d2 : decide (j ≤ 8) = true := decide_eq_true hlt
              have HVV := Lib.hid (HMV.out.pt.use fun S hS => pval_any wr hS (j : Int) (by omega) (by omega))
              by_cases hz : valP p5 (j : Int) = 0
              · rw [hz] at HVV
                have HDE : Hid (∀ (l : Int) (V : World), (l = (j : Int) ∨ l = -(j : Int)) → Below wr.heap.size wr V → Calls Try.prog 28 #[.pointer (some ⟨q, 0, none⟩), .int .i64 l] V fun e w' => e = .returned (.bool true) ∧ AgI w1 w' (.pointer (some ⟨q, 0, none⟩)) g (.slice fa N fc) xss (m + 1)) := fun l V hl hV => by
                  have hok := dec_ok hj1 (by rw [HP5.out.n]; exact hlt) hz hl
                  refine ((HMV.out.keep hV).dec l (by omega) (by omega)).mono ?_
                  rintro e w' ⟨rfl, hM'⟩
                  rw [hok]
                  have h1 := HMK.out
                  refine ⟨rfl, decdP p5 l, ys, T, hM', HP5.out.dec l, by omega, by omega, fun x q' hR => ?_⟩
                  have k1 := PrpR.raises (N := 8) HW5.out hok hR
                  have k2 := HLV.out.dec HW5.out HCL.out hok hR
                  have := HMU.out
                  exact ⟨by omega, k2⟩
                have d3 : decide ((8 : Int) < (j : Int)) = false := decide_eq_false (by omega)
                have d4 : decide (8 < j) = false := decide_eq_false (by omega)
                have HJB := Lib.hid (And.intro hj1 hlt)
                have hk5 : k ≤ 511 := by have := HMK.out; omega
                have hj5 : j ≤ 8 := hlt
                clear hz hlt hj1 hj2 HAL
                go_wp2_with fail
                refine HVV.out.mono ?_
                rintro e w' ⟨rfl, rfl⟩
                by_cases hk : k < O
                · have d5 : decide ((k : Int) < (O : Int)) = true := decide_eq_true (by omega)
                  have d6 : decide (k < O) = true := decide_eq_true hk
                  obtain ⟨b, off, ha, hbl, hcell⟩ := HOX.out.resolve_left (by omega)
                  subst ha
                  have y0 := ((HBE.out.trans (HBV.out.mono HBE.out.size)).cell (p := ⟨b, off + k, none⟩) hbl).trans (hcell k hk)
                  have hyb := HOI.out k hk
                  clear hcell
                  generalize os.getD k 0 = y at *
                  cases hbit : (bits BinOp.and IntKind.i64 y 1 == 1) with
                  | true =>
                    have HDC := Lib.hid (HDE.out (-(j : Int)) _ (.inr rfl) (Below.refl _ _))
                    go_wp2_with fail
                    refine HDC.out.mono ?_
                    rintro e w6 ⟨rfl, hA6⟩
                    have HA6 := Lib.hid hA6
                    clear hA6 HDC hyb
                    go_wp2_with fail
                    go_roundw
                    case rel => exact ⟨m + 1, k + 1, by have := HMK.out; omega, by have := HMK.out; omega, by go_num, by go_num, HA6.out⟩
                    case measure => have := HMK.out; go_light; simp [intOf]; omega
                  | false =>
                    have HDC := Lib.hid (HDE.out (j : Int) _ (.inl rfl) (Below.refl _ _))
                    go_wp2_with fail
                    refine HDC.out.mono ?_
                    rintro e w6 ⟨rfl, hA6⟩
                    have HA6 := Lib.hid hA6
                    clear hA6 HDC hyb
                    go_wp2_with fail
                    go_roundw
                    case rel => exact ⟨m + 1, k + 1, by have := HMK.out; omega, by have := HMK.out; omega, by go_num, by go_num, HA6.out⟩
                    case measure => have := HMK.out; go_light; simp [intOf]; omega
                · have d5 : decide ((k : Int) < (O : Int)) = false := decide_eq_false (by omega)
                  have d6 : decide (k < O) = false := decide_eq_false hk
                  have HDC := Lib.hid (HDE.out (j : Int) _ (.inl rfl) (Below.refl _ _))
                  clear hk
                  go_wp2_with fail
                  refine HDC.out.mono ?_
                  rintro e w6 ⟨rfl, hA6⟩
                  have HA6 := Lib.hid hA6
                  clear hA6 HDC
                  go_wp2_with fail
                  go_roundw
                  case rel => exact ⟨m + 1, k + 1, by have := HMK.out; omega, by have := HMK.out; omega, by go_num, by go_num, HA6.out⟩
                  case measure => have := HMK.out; go_light; simp [intOf]; omega
              · have HAL2 : Hid (∀ v : Nat, 1 ≤ v → v < j + 1 → valP p5 (v : Int) ≠ 0) := fun v h1 h2 => by
                  rcases Nat.lt_or_ge v j with h | h
                  · exact HAL.out v h1 h
                  · have : v = j := by omega
                    subst this
                    exact hz
                generalize valP p5 (j : Int) = z at *
                have z1 : (z != 0) = true := by simpa using hz
                have z2 : (z == 0) = false := by simpa using hz
                clear hz
                go_wp2_with fail
                refine HVV.out.mono ?_
                rintro e w' ⟨rfl, rfl⟩
                go_wp2_with fail
                go_roundw
                case rel => exact ⟨j + 1, by omega, by omega, by go_num, HBV.out, HAL2.out⟩
                case measure => go_light; simp [intOf]; omega
            · have hj9 : j = 9 := by omega
              subst hj9
              clear hlt hj1 hj2
              rename World => WV
              have hown0 := Lib.hid (own_empty WV WV.heap.size 4 1 (Nat.le_refl _))
              have hsz0 : Hid (WV.heap.size ≤ (WV.alloc (.cells #[] 4)).heap.size) := by unfold Hid; rw [show (WV.alloc (.cells #[] 4)).heap.size = WV.heap.size + 1 from Array.size_push _]; exact Nat.le_succ _
              have hsz1 : Hid (WV.heap.size + 1 = (WV.alloc (.cells #[] 4)).heap.size) := (Array.size_push _).symm
              have HB0 : Hid (Below WV.heap.size WV (WV.alloc (.cells #[] 4))) := (Below.refl _ _).alloc (Nat.le_refl _) _
              have HSAT := Lib.hid (HP5.out.sat HW5.out HCL.out fun v h1 h2 => HAL.out v h1 (by omega))
              have HMW : Hid (∀ V, Below WV.heap.size WV V → AgM w1 T V (.pointer (some ⟨q, 0, none⟩)) p5 g (.slice fa N fc) xss ys) := fun V hV => HMV.out.keep hV
              have HBF : Hid (∀ V, Below WV.heap.size WV V → Below w.heap.size w V) := fun V hV => (HBE.out.trans (HBV.out.mono HBE.out.size)).trans (hV.mono (HBE.out.trans (HBV.out.mono HBE.out.size)).size)
              go_wp2_with (at_builtin; refine wpList_appS 53 4 (.bool false) 1 1 Try.underlying53 infoBoA rfl (by decide) (by decide) rfl _ _ rfl (WV.alloc (.cells #[] 4)) WV.heap.size _ 0 [] [.bool false] (fun u hu => by simp at hu; subst hu; rfl) rfl hown0.out hsz0.out (by decide) (WV.heap.size + 1) hsz1.out rfl rfl ?_; intro v6 w6 ho6 ha6)
              have HA0 : Hid (w6.ownsRow WV.heap.size 4 1 v6 1 ((agL p5 1).map Value.bool) ∧ Below WV.heap.size WV w6) := ⟨ho6, HB0.out.trans ha6.below⟩
              clear ho6 ha6 hown0 hsz0 hsz1 HB0 HMV
              go_loopw [16, 17] (fun mv cv W => ∃ c : Nat, 1 ≤ c ∧ c ≤ 9 ∧ cv = .int .i64 (c : Int) ∧ Hid (W.ownsRow WV.heap.size 4 1 mv c ((agL p5 c).map Value.bool) ∧ Below WV.heap.size WV W)) (fun _ cv _ => 9 - (intOf cv).toNat)
              case atStart => exact ⟨1, Nat.le_refl _, by omega, rfl, HA0.out⟩
              case round =>
                obtain ⟨c, hc1, hc2, rfl, HAC⟩ := hrel
                clear HA0
                obtain ⟨ma, mc, rfl, hm1, hm2⟩ := own_shape HAC.out.1
                unfold maxLen at hm2
                by_cases hlt : c ≤ 8
                · have d1 : decide ((c : Int) ≤ 8) = true := decide_eq_true (by omega)
                  have d2 : decide (c ≤ 8) = true := decide_eq_true hlt
                  have HVV := Lib.hid ((HMW.out _ HAC.out.2).pt.use fun S hS => pval_any wr hS (c : Int) (by omega) (by omega))
                  have HSN : Hid (∀ z, valP p5 (c : Int) = z → agL p5 (c + 1) = agL p5 c ++ [z == 1]) := fun z hz => agL_snoc p5 hc1 hz
                  have hown := HAC.out.1
                  have hsz := HAC.out.2.size
                  obtain ⟨z, hz⟩ : ∃ z, valP p5 (c : Int) = z := ⟨_, rfl⟩
                  rw [hz] at HVV
                  have HZ := Lib.hid hz
                  clear hz
                  go_wp2_with fail
                  refine HVV.out.mono ?_
                  rintro e w' ⟨rfl, rfl⟩
                  go_wp2_with (at_builtin; refine wpList_app1G Value.bool 53 4 (.bool false) 1 Try.underlying53 infoBoA rfl (by decide) rfl _ _ rfl wr WV.heap.size _ c (agL p5 c) (z == 1) rfl hown hsz (by omega) rfl rfl ?_; intro v8 w8 ho8 ha8)
                  have HA8 : Hid (w8.ownsRow WV.heap.size 4 1 v8 (c + 1) ((agL p5 (c + 1)).map Value.bool) ∧ Below WV.heap.size WV w8) := by
                    refine ⟨?_, HAC.out.2.trans ha8.below⟩
                    rw [HSN.out z HZ.out]
                    exact ho8
                  clear ho8 ha8 hown hsz HVV
                  go_roundw
                  case rel => exact ⟨c + 1, by omega, by omega, by go_num, HA8.out⟩
                  case measure => go_light; simp [intOf]; omega
                · have hc9 : c = 9 := by omega
                  subst hc9
                  clear hlt hc1 hc2
                  have HOF : Hid (Calls Try.prog 30 #[.slice fa N fc, .slice ma 9 mc] wr fun e w' => e = .returned (.bool true) ∧ wr = w') := by
                    obtain ⟨a', c', e', hra⟩ := (HMW.out _ HAC.out.2).rows.rows
                    injection e' with e1 e2 e3
                    subst e1; subst e3
                    have := refOf_any fa fc xss (.slice ma 9 mc) (agM p5) wr hra (own_brow (by rw [← agL_nine]; exact HAC.out.1)) (fun c hc => (HX2.out c hc).1)
                    rwa [HSAT.out, HL.out] at this
                  have HBZ := Lib.hid (HBF.out _ HAC.out.2)
                  go_wp2_with fail
                  refine HOF.out.mono ?_
                  rintro e w' ⟨rfl, rfl⟩
                  go_wp2_with fail
                  go_ret
                  exact ⟨rfl, HBZ.out⟩
        · clear HR6
          have d0 : decide ((0 : Int) ≤ (i : Int)) = true := decide_eq_true (by omega)
          by_cases hst : p5.st = []
          · have HLL := Lib.hid (HM5.out.pt.use fun S hS => plvl_any w5 hS)
            rw [hst] at HLL
            have HIM := Lib.hid (HM5.out.implied (.slice none 0 0) [] ⟨none, 0, rfl, Nat.le_refl _, by unfold maxLen; omega, .inl rfl⟩ HP5.out.rgt (by simp) (by simp) (HP5.out.wrg (wrg_zero HW5.out hst (mem_clsP.2 ⟨i, hkc⟩) hf)))
            clear hst hkc hf
            go_wp2_with fail
            refine HLL.out.mono ?_
            rintro e w' ⟨rfl, rfl⟩
            go_wp2_with fail
            refine HIM.out.mono ?_
            rintro e w6 ⟨rfl, hb6⟩
            go_wp2_with fail
            go_ret
            exact ⟨rfl, HBE.out.trans (hb6.mono HBE.out.size)⟩
          · have HFR := Lib.hid (HM5.out.pt.use fun S hS => from_any w5 hS (by have := HP5.out.len; rw [List.length_append, HL.out] at this; have := HMK.out; omega) i c hkc hf (wrong_ne HW5.out HLV.out hst hkc) hst)
            have HLL := Lib.hid (HM5.out.pt.use fun S hS => plvl_any w5 hS)
            have HST := Lib.hid hst
            have HTP := Lib.hid (top_last HW5.out HLV.out hst (mem_clsP.2 ⟨i, hkc⟩) hf)
            have hl0 : ((p5.st.length : Int) == 0) = false := by
              have : 0 < p5.st.length := List.length_pos_iff.2 hst
              rw [beq_eq_false_iff_ne]; omega
            clear hst hkc hf
            go_wp2_with fail
            refine HLL.out.mono ?_
            rintro e w' ⟨rfl, rfl⟩
            go_wp2_with fail
            refine HFR.out.mono ?_
            rintro e w6 ⟨u, r, cl, sv, rfl, hrow, ⟨sa, sn, sc, rfl⟩, hL, hb6⟩
            have HLES := Lib.hid hL
            obtain ⟨bk, hbk⟩ : ∃ bk, topL p5 r = bk := ⟨_, rfl⟩
            obtain ⟨yl, hyl⟩ : ∃ yl, u :: r = yl := ⟨_, rfl⟩
            rw [hbk, hyl]
            rw [hyl] at hrow
            obtain ⟨sc9, hsc⟩ : ∃ sc9, ((ddL (yl.map fun l => levP p5 (plc l : Int))).length : Int) = sc9 := ⟨_, rfl⟩
            rw [hsc]
            have HYL := Lib.hid hyl
            have HBK := Lib.hid hbk
            have hbb : 0 ≤ bk ∧ bk ≤ 5000 := by
              have h1 := topL_zero (p := p5) r
              have h2 := topL_le (p := p5) r 5000 (by omega) fun l hl => by
                have := (hL.allF.bd HW5.out (List.mem_cons_of_mem u hl)).2.2.2.2
                rw [plc_absI]; omega
              omega
            have HAF : Hid (AllF p5 yl) := by unfold Hid; rw [← hyl]; exact hL.allF
            have HYB : Hid (∀ l ∈ yl, 1 ≤ plc l ∧ plc l ≤ 8) := fun l hl => by
              have h1 := HW5.out.rgt _ (HAF.out l hl)
              rw [plc_negate, HP5.out.n] at h1
              exact h1
            have HYI : Hid (InW yl) := fun l hl => by
              have := (HAF.out.bd HW5.out hl).1; omega
            have HMX : Hid (yl.length ≤ 20) := by
              unfold Hid
              rw [← hyl, List.length_cons]
              have hsub : r.map plc ⊆ List.range 13 := fun v hv => by
                obtain ⟨l, hl, e⟩ := List.mem_map.1 hv
                have h1 := HYB.out l (by rw [← hyl]; exact List.mem_cons_of_mem u hl)
                exact List.mem_range.2 (by omega)
              have := hL.nd.length_le_of_subset hsub
              simp at this
              omega
            have HOK : Hid (addOk (backP p5 bk).n yl = true) := by
              unfold Hid
              rw [← hyl]
              exact hL.add HW5.out (by unfold backP; split <;> rfl)
            have HWG : Hid (Wrg (xss ++ ys) (yl.map fun l => -l)) := by
              have := HP5.out.wrg hL.wrg
              unfold Hid
              rw [← hyl]
              exact this
            have HXL : Hid ((xss ++ ys).length ≤ 900) := by
              unfold Hid
              rw [List.length_append, HL.out]
              have := HMK.out
              omega
            have HRS : Hid (∀ cc x q, NrmP yl cc → PrpR (addP (backP p5 bk) cc) x q → muP 8 p5 < muP 8 q ∧ LvC q) := fun cc x q hc hR => by
              rw [← hyl] at hc
              rw [← hbk] at hR
              exact hL.raises HW5.out HLV.out HTP.out HST.out hc hR (by rw [HP5.out.n]; exact Nat.le_refl _)
            clear hyl hbk hsc hL
            have HLB := Lib.hid (LsB.new (T := T) (bk := bk) (sc := sc9) (sv := .slice sa sn sc) hb6 hrow)
            have hb7 : Below w5.heap.size w5 (w6.alloc (.cells #[cl, .int .i64 bk, .int .i64 sc9, .slice sa sn sc] 29)) := hb6.alloc hb6.size _
            have HM7 := Lib.hid (HM5.out.more hb7)
            obtain ⟨ca, cc0, rfl, hc1, hc2, _⟩ := hrow
            unfold maxLen at hc2
            clear hb6 hb7 HFR HLL
            generalize hM : yl.length = M at *
            have HMM := Lib.hid hM
            clear hM
            go_wp2_with fail
            generalize hw7 : w6.alloc (.cells #[.slice ca M cc0, .int .i64 bk, .int .i64 sc9, .slice sa sn sc] 29) = w7 at *
            clear hw7
            generalize (fun i => T i ∨ NewB w5 w7 i) = U at *
            generalize w6.heap.size = G at *
            have HIM := Lib.hid (HM7.out.implied (.slice ca M cc0) yl HLB.out.row.row HP5.out.rgt HYB.out (by rw [HMM.out]; have := HMX.out; omega) HWG.out)
            refine HIM.out.mono ?_
            rintro e w8 ⟨rfl, hb8⟩
            have HM8 := Lib.hid (HM7.out.keep hb8)
            have HLB8 := Lib.hid (HLB.out.keep (Kp.below hb8 fun i hi => (HM7.out.lt.1 i hi).1))
            have c08 := HLB8.out.c0
            have HAD := Lib.hid (HM8.out.add (.slice ca M cc0) yl HLB8.out.row HYB.out (by rw [HMM.out]; have := HMX.out; omega) HXL.out)
            clear hb8 HIM HM7 HLB HWG
            go_wp2_with fail
            refine HAD.out.mono ?_
            rintro e w9 ⟨rfl, hM9, hk9⟩
            have HM9 := Lib.hid hM9
            have HLB9 := Lib.hid (HLB8.out.keep hk9)
            have c19 := HLB9.out.c1
            have HBK9 := Lib.hid (pt_back hM9.pt bk (by omega) (by omega))
            clear hM9 hk9 HAD HM8 HLB8 c08
            go_wp2_with fail
            refine HBK9.out.mono ?_
            rintro e w10 ⟨rfl, hP10, hk10⟩
            have HM10 := Lib.hid (HM9.out.call hP10 hk10)
            have HLB10 := Lib.hid (HLB9.out.keep (hk10.sub fun i hi => .inl (.inl hi)))
            have c010 := HLB10.out.c0
            have hbc : (backP p5 bk).cl = p5.cl := by unfold backP; split <;> rfl
            have HPA := Lib.hid (pt_add hP10 (.slice ca M cc0) yl HLB10.out.row.row HYI.out (by rw [HMM.out]; have := HMX.out; omega) (by rw [hbc]; have := HP5.out.len; have := HXL.out; omega))
            clear hP10 hk10 HBK9 HM9 HLB9 c19 hbc
            go_wp2_with fail
            refine HPA.out.mono ?_
            rintro e w11 ⟨y11, b11, p11, hAR, _, rfl, hP11, hk11⟩
            obtain ⟨_, _, cn, hcn, rfl⟩ | ⟨_, h0, _⟩ := hAR
            · have HAI : Hid (AgI w1 w11 (.pointer (some ⟨q, 0, none⟩)) g (.slice fa N fc) xss (m + 1)) := by
                have h1 := HMK.out
                refine ⟨_, ys ++ [yl], _, HM10.out.call hP11 hk11, (HP5.out.back bk).more hcn HYB.out, ?_, by omega, fun x q' hR => ?_⟩
                · rw [List.length_append, List.length_singleton]; omega
                · obtain ⟨k1, k2⟩ := HRS.out cn x q' hcn hR
                  have := HMU.out
                  exact ⟨by omega, k2⟩
              clear hcn hP11 hk11 HPA c010
              go_wp2_with fail
              go_roundw
              case rel => exact ⟨m + 1, k, by have := HMK.out; omega, by have := HMK.out; omega, by go_num, rfl, HAI.out⟩
              case measure => have := HMK.out; go_light; simp [intOf]; omega
            · exact absurd (h0.symm.trans HOK.out) (by decide)
end Go.Proofs.Ytjlmooimdogmjaa
