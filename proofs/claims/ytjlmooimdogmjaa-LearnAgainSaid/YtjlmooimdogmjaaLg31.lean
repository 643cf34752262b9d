/- A prop of the call's own beside memory that its calls leave as it is ('PT', 'Kp'); rows of ints, rows of clauses that lie in such memory. No conditions beyond those typed. · Plain functions for the document's own Norm: a sorted list with one more literal, and whether it has a literal with its opposite. Holds for all lists; no conditions beyond those typed. · The contract of the document's own skolemref1.Norm: a sorted list with the same members, each literal once, and whether none stands there with its opposite. Conditions: the literals are 64-bit ints above the least, the list is short. -/
import Derived.Test.YtjlmooimdogmjaaLg29
import Derived.Test.YtjlmooimdogmjaaLg30
import Derived.Test.YtjlmooimdogmjaaLg01
import Derived.Deep.RegionLaw
import Derived.Deep.DeepCutAuto
import Derived.Deep.CutBlock
import Derived.Deep.LoopGhost
set_option linter.unusedVariables false
set_option linter.unusedSimpArgs false
set_option linter.unusedVariables false
set_option linter.unusedSimpArgs false
namespace Go.Proofs.Ytjlmooimdogmjaa
open Go.RowKit

/-- What lies in the blocks of T is as it was. -/
structure Kp (T : Nat → Prop) (w w' : World) : Prop where
  size : w.heap.size ≤ w'.heap.size
  blk : ∀ i, T i → w'.heap[i]? = w.heap[i]?
theorem Kp.refl (T : Nat → Prop) (w : World) : Kp T w w := ⟨Nat.le_refl _, fun _ _ => rfl⟩
theorem Kp.trans {T : Nat → Prop} {a b c : World} (h : Kp T a b) (k : Kp T b c) : Kp T a c := ⟨Nat.le_trans h.size k.size, fun i hi => (k.blk i hi).trans (h.blk i hi)⟩
theorem Kp.sub {T U : Nat → Prop} {a b : World} (h : Kp T a b) (hs : ∀ i, U i → T i) : Kp U a b := ⟨h.size, fun i hi => h.blk i (hs i hi)⟩
theorem Kp.below {T : Nat → Prop} {w w' : World} (h : Below w.heap.size w w') (hT : ∀ i, T i → i < w.heap.size) : Kp T w w' := ⟨h.size, fun i hi => h.block i (hT i hi)⟩

/-- A prop behind v, off the blocks of T. -/
def PT (w0 : World) (T : Nat → Prop) (v : Value) (p : Pr) (W : World) : Prop := ∃ S, PrS W v S p ∧ Below w0.heap.size w0 W ∧ (∀ i ∈ S, w0.heap.size ≤ i ∧ ¬ T i) ∧ ∀ i, T i → i < W.heap.size
section
variable {w0 W : World} {T : Nat → Prop} {v : Value} {p : Pr}
theorem PSt.pt (h : PSt w0 v p W) : PT w0 (fun _ => False) v p W := by
  obtain ⟨S, h1, h2, h3⟩ := h
  exact ⟨S, h1, h2, fun i hi => ⟨h3 i hi, fun h => h⟩, fun i hi => hi.elim⟩
theorem PT.st (h : PT w0 T v p W) : PSt w0 v p W := by
  obtain ⟨S, h1, h2, h3, h4⟩ := h
  exact ⟨S, h1, h2, fun i hi => (h3 i hi).1⟩
theorem PT.bel (h : PT w0 T v p W) : Below w0.heap.size w0 W := h.st.bel
theorem PT.wf (h : PT w0 T v p W) : PrW p := h.st.wf
theorem PT.ptr (h : PT w0 T v p W) : ∃ q, v = .pointer (some ⟨q, 0, none⟩) := h.st.ptr
theorem PT.use {P : Prop} (h : PT w0 T v p W) (hc : ∀ S, PrS W v S p → P) : P := h.st.use hc
theorem PT.tlt (h : PT w0 T v p W) : ∀ i, T i → i < W.heap.size := by obtain ⟨S, _, _, _, h⟩ := h; exact h
theorem PT.keep {W' : World} (h : PT w0 T v p W) (hb : Below W.heap.size W W') : PT w0 T v p W' := by
  obtain ⟨S, h1, h2, h3, h4⟩ := h
  exact ⟨S, h1.below hb, h2.trans (hb.mono h2.size), h3, fun i hi => Nat.lt_of_lt_of_le (h4 i hi) hb.size⟩
/-- New memory goes to what is kept. -/
theorem PT.more {W' : World} {U : Nat → Prop} (h : PT w0 T v p W) (hb : Below W.heap.size W W') (hU : ∀ i, U i → T i ∨ (W.heap.size ≤ i ∧ i < W'.heap.size)) : PT w0 U v p W' := by
  obtain ⟨S, h1, h2, h3, h4⟩ := h
  refine ⟨S, h1.below hb, h2.trans (hb.mono h2.size), fun i hi => ⟨(h3 i hi).1, fun hu => ?_⟩, fun i hi => ?_⟩
  · rcases hU i hu with h | ⟨h, _⟩
    · exact (h3 i hi).2 h
    · exact absurd (h1.lt i hi) (Nat.not_lt.2 h)
  · rcases hU i hi with h | ⟨_, h⟩
    · exact Nat.lt_of_lt_of_le (h4 i h) hb.size
    · exact h
theorem PT.less {U : Nat → Prop} (h : PT w0 T v p W) (hU : ∀ i, U i → T i) : PT w0 U v p W := h.more (Below.refl _ _) fun i hi => .inl (hU i hi)
/-- What writes to kept memory that is the call's own leaves the prop. -/
theorem PT.chg {W' : World} {R : List Nat} (h : PT w0 T v p W) (hc : Chg R W W') (hR : ∀ i ∈ R, T i ∧ w0.heap.size ≤ i) : PT w0 T v p W' := by
  obtain ⟨S, h1, h2, h3, h4⟩ := h
  exact ⟨S, h1.keep hc (fun i hi hr => (h3 i hi).2 (hR i hr).1), hc.below h2 h2.size (fun i hi => (hR i hi).2), h3, fun i hi => Nat.lt_of_lt_of_le (h4 i hi) hc.size⟩
theorem PT.set (h : PT w0 T v p W) (q o : Nat) (u : Value) (hq : T q) (hq0 : w0.heap.size ≤ q) : PT w0 T v p (W.setCell ⟨q, o, none⟩ u) :=
  h.chg (R := [q]) ((Chg.refl _ _).setCell (.inl (by simp)) _) (by intro i hi; simp at hi; subst hi; exact ⟨hq, hq0⟩)
/-- What a call leaves. -/
theorem pt {R : Value → Pr → Prop} {f : Nat} {args : Array Value} (h : PT w0 T v p W) (hc : ∀ S, PrS W v S p → Calls Try.prog f args W (PPost W v S R)) : Calls Try.prog f args W fun e w' => ∃ r p', R r p' ∧ e = .returned r ∧ PT w0 T v p' w' ∧ Kp T W w' := by
  obtain ⟨S, h1, h2, h3, h4⟩ := h
  refine (hc S h1).mono fun e w' hp => ?_
  obtain ⟨r, p', hR, he, ⟨S', hG, hF⟩, hC⟩ := hp
  refine ⟨r, p', hR, he, ⟨S', hG, hC.below h2 h2.size (fun i hi => (h3 i hi).1), fun i hi => ?_, fun i hi => Nat.lt_of_lt_of_le (h4 i hi) hC.size⟩, hC.size, fun i hi => hC.block i (h4 i hi) (fun hm => (h3 i hm).2 hi)⟩
  rcases hF i hi with h | h
  · exact h3 i h
  · exact ⟨Nat.le_trans h2.size h, fun ht => absurd (h4 i ht) (Nat.not_lt.2 h)⟩

theorem pt_dec (h : PT w0 T v p W) (l : Int) (h1 : -9223372036854775807 ≤ l) (h2 : l ≤ 9223372036854775807) : Calls Try.prog 28 #[v, .int .i64 l] W fun e w' => e = .returned (.bool (decOk p l)) ∧ PT w0 T v (decdP p l) w' ∧ Kp T W w' :=
  (pt h fun S hS => pdec_any W hS l h1 h2).mono fun e w' ⟨r, p', ⟨e1, e2⟩, he, hp⟩ => ⟨by rw [he, e1], by rw [← e2]; exact hp⟩

theorem pt_back (h : PT w0 T v p W) (k : Int) (h1 : -9223372036854775808 ≤ k) (h2 : k ≤ 9223372036854775807) : Calls Try.prog 17 #[v, .int .i64 k] W fun e w' => e = .returned (.tuple #[]) ∧ PT w0 T v (backP p k) w' ∧ Kp T W w' :=
  (pt h fun S hS => pback_any W hS k h1 h2).mono fun e w' ⟨r, p', ⟨e1, e2⟩, he, hp⟩ => ⟨by rw [he, e1], by rw [← e2]; exact hp⟩

theorem pt_prop (h : PT w0 T v p W) (hc : p.cl.length ≤ 1000) : Calls Try.prog 19 #[v] W fun e w' => ∃ x p', PrpR p x p' ∧ e = .returned (.int .i64 x) ∧ PT w0 T v p' w' ∧ Kp T W w' :=
  (pt h fun S hS => pprop_any W hS hc).mono fun e w' ⟨r, p', ⟨x, e1, e2⟩, he, hp⟩ => ⟨x, p', e2, by rw [he, e1], hp⟩

/-- A clause is told: it is there, or not. -/
def AddR (p : Pr) (xs : List Int) (b : Bool) (p' : Pr) : Prop := (b = true ∧ addOk p.n xs = true ∧ ∃ c, NrmP xs c ∧ p' = addP p c) ∨ (b = false ∧ addOk p.n xs = false ∧ p' = p)

theorem pt_add (h : PT w0 T v p W) (u : Value) (xs : List Int) (hu : Row W u xs) (hx : InW xs) (hn : xs.length ≤ 1000) (hc : p.cl.length ≤ 1000) : Calls Try.prog 18 #[v, u] W fun e w' => ∃ (y : Int) (b : Bool) (p' : Pr), AddR p xs b p' ∧ (b = true → y = (p.cl.length : Int)) ∧ e = .returned (.tuple #[.int .i64 y, .bool b]) ∧ PT w0 T v p' w' ∧ Kp T W w' :=
  (pt h fun S hS => padd_any W hS u xs hu hx hn hc).mono fun e w' ⟨r, p', hR, he, hp⟩ => by
    rcases hR with ⟨h0, c, h1, h2, h3⟩ | ⟨h0, h1, x, h2⟩
    · exact ⟨_, true, p', .inl ⟨rfl, h0, c, h1, h3⟩, fun _ => rfl, by rw [he, h2], hp⟩
    · exact ⟨x, false, p', .inr ⟨rfl, h0, h1⟩, (fun e => absurd e (by decide)), by rw [he, h2], hp⟩

end

/-! ### Rows in kept memory -/
def RowT (w : World) (T : Nat → Prop) (v : Value) (xs : List Int) : Prop :=
  ∃ a c, v = .slice a xs.length c ∧ xs.length ≤ c ∧ c ≤ maxLen ∧ (xs.length = 0 ∨ ∃ b off, a = some ⟨b, off, none⟩ ∧ b < w.heap.size ∧ T b ∧ ∀ j, j < xs.length → w.cell? ⟨b, off + j, none⟩ = some (.int .i64 (xs.getD j 0)))
theorem RowT.row {w : World} {T : Nat → Prop} {v : Value} {xs : List Int} (h : RowT w T v xs) : Row w v xs := by
  obtain ⟨a, c, e, h1, h2, h3⟩ := h
  exact ⟨a, c, e, h1, h2, h3.imp id fun ⟨b, off, e, h4, _, h5⟩ => ⟨b, off, e, h4, h5⟩⟩
theorem RowT.keep {w w' : World} {T : Nat → Prop} {v : Value} {xs : List Int} (h : RowT w T v xs) (k : Kp T w w') : RowT w' T v xs := by
  obtain ⟨a, c, e, h1, h2, h3⟩ := h
  exact ⟨a, c, e, h1, h2, h3.imp id fun ⟨b, off, e, h4, h5, h6⟩ => ⟨b, off, e, Nat.lt_of_lt_of_le h4 k.size, h5, fun j hj => (World.cell?_of_block (a := ⟨b, off + j, none⟩) (k.blk b h5)).trans (h6 j hj)⟩⟩
theorem own_rowT {w : World} {B : Nat} {v : Value} {n : Nat} {xs : List Int} {T : Nat → Prop} (h : w.ownsRow B 3 1 v n (xs.map (Value.int .i64))) (hT : ∀ i, B ≤ i → i < w.heap.size → T i) : RowT w T v xs := by
  have hl := own_len h
  obtain ⟨a, c, e, h1, h2, h3⟩ := own_row h
  subst e
  refine ⟨a, c, rfl, h1, h2, h3.imp id fun ⟨b, off, e, h4, h5⟩ => ⟨b, off, e, h4, hT b ?_ h4, h5⟩⟩
  subst e
  rcases h.2 with ⟨e0, _⟩ | ⟨g, cap, cur, e0, hg, _⟩
  · cases e0
  · injection e0 with e0 _ _
    injection e0 with e0
    injection e0 with e0 _ _
    rw [e0]; exact hg
def RowsT (w : World) (T : Nat → Prop) (v : Value) (xss : List (List Int)) : Prop :=
  ∃ a c, v = .slice a xss.length c ∧ xss.length ≤ c ∧ c ≤ maxLen ∧ (xss.length = 0 ∨ ∃ b off, a = some ⟨b, off, none⟩ ∧ b < w.heap.size ∧ T b ∧ ∀ i, i < xss.length → ∃ v, w.cell? ⟨b, off + i, none⟩ = some v ∧ RowT w T v (xss.getD i []))
theorem RowsT.keep {w w' : World} {T : Nat → Prop} {v : Value} {xss : List (List Int)} (h : RowsT w T v xss) (k : Kp T w w') : RowsT w' T v xss := by
  obtain ⟨a, c, e, h1, h2, h3⟩ := h
  refine ⟨a, c, e, h1, h2, h3.imp id fun ⟨b, off, e, h4, h5, h6⟩ => ⟨b, off, e, Nat.lt_of_lt_of_le h4 k.size, h5, fun j hj => ?_⟩⟩
  obtain ⟨u, g1, g2⟩ := h6 j hj
  exact ⟨u, (World.cell?_of_block (a := ⟨b, off + j, none⟩) (k.blk b h5)).trans g1, g2.keep k⟩
theorem RowsT.rows {w : World} {T : Nat → Prop} {v : Value} {xss : List (List Int)} (h : RowsT w T v xss) : ∃ a c, v = .slice a xss.length c ∧ RowsAt w a c xss := by
  obtain ⟨a, c, e, h1, h2, h3⟩ := h
  exact ⟨a, c, e, h1, h2, h3.imp id fun ⟨b, off, e, h4, _, h6⟩ => ⟨b, off, e, h4, fun j hj => (h6 j hj).imp fun u ⟨g1, g2⟩ => ⟨g1, g2.row⟩⟩⟩
theorem CRow.rowsT {w : World} {B : Nat} {v : Value} {xss : List (List Int)} {T : Nat → Prop} (h : CRow w B v xss) (hT : ∀ i, B ≤ i → i < w.heap.size → T i) : RowsT w T v xss := by
  obtain ⟨c, vs, cur, h⟩ := h
  have ho := h.out
  rcases ho.2 with ⟨e0, e1⟩ | ⟨g, cap, cur', e0, hg, hh, h1, h2, _⟩
  · exact ⟨none, 0, by rw [e0, e1], by omega, by unfold maxLen; omega, .inl e1⟩
  · refine ⟨_, cap, e0, h1, h2, ?_⟩
    subst e0
    have hgl : g < w.heap.size := by
      rcases Nat.lt_or_ge g w.heap.size with h' | h'
      · exact h'
      · rw [Array.getElem?_eq_none h'] at hh; cases hh
    refine .inr ⟨g, 0, rfl, hgl, hT g hg hgl, fun j hj => ?_⟩
    obtain ⟨u, k1, k2, _⟩ := h.each j hj
    have hc := ho.cells (g := g) rfl j u k1
    rw [show (⟨g, 0, none⟩ : Addr).add j = ⟨g, 0 + j, none⟩ by unfold Addr.add; split <;> simp_all] at hc
    exact ⟨u, hc, own_rowT k2 hT⟩
end Go.Proofs.Ytjlmooimdogmjaa

namespace Go.Proofs.Ytjlmooimdogmjaa
open Go.RowKit

/-- By the variable, the one below 0 first. -/
def ltQ (x y : Int) : Prop := absI x < absI y ∨ (absI x = absI y ∧ x < y)
instance (x y : Int) : Decidable (ltQ x y) := inferInstanceAs (Decidable (_ ∨ _))
theorem ltQ_trans {x y z : Int} (h1 : ltQ x y) (h2 : ltQ y z) : ltQ x z := by
  unfold ltQ at *; omega
theorem ltQ_tot {x y : Int} (h : ¬ ltQ x y) (hne : x ≠ y) : ltQ y x := by
  unfold ltQ at *; omega
theorem ltQ_irrefl {x : Int} (h : ltQ x x) : False := by unfold ltQ at h; omega

/-- No literal but 0 stands there with its opposite. -/
def saysL (l : List Int) : Bool := decide (∀ x ∈ l, x ≠ 0 → -x ∉ l)
theorem saysL_iff (l : List Int) : saysL l = true ↔ ∀ x ∈ l, x ≠ 0 → -x ∉ l := by unfold saysL; exact decide_eq_true_iff
theorem saysL_step (l l' : List Int) (x : Int) (hx : x ∉ l) (h : ∀ y, y ∈ l' ↔ y ∈ l ∨ y = x) : saysL l' = (saysL l && !decide (-x ∈ l)) := by
  rw [Bool.eq_iff_iff, saysL_iff, Bool.and_eq_true, saysL_iff]
  simp only [Bool.not_eq_true', decide_eq_false_iff_not]
  constructor
  · intro hs
    refine ⟨fun y hy h0 hm => hs y ((h y).2 (.inl hy)) h0 ((h _).2 (.inl hm)), fun hm => ?_⟩
    by_cases h0 : x = 0
    · rw [h0] at hm hx; exact hx (by simpa using hm)
    · exact hs x ((h x).2 (.inr rfl)) h0 ((h _).2 (.inl hm))
  · rintro ⟨hs, hm⟩ y hy h0 hy'
    rcases (h y).1 hy with hy | rfl
    · rcases (h _).1 hy' with hy' | e
      · exact hs y hy h0 hy'
      · exact hm (by rw [← e]; simpa using hy)
    · rcases (h _).1 hy' with hy' | e
      · exact hm hy'
      · omega

theorem ins_pair (l : List Int) (x : Int) (q : Nat) (hp : l.Pairwise ltQ) (h1 : ∀ j, j < q → j < l.length → ltQ (l.getD j 0) x) (h2 : q < l.length → ltQ x (l.getD q 0)) : (l.take q ++ [x] ++ l.drop q).Pairwise ltQ := by
  have hp' := hp
  rw [← List.take_append_drop q l] at hp'
  obtain ⟨p1, p2, p3⟩ := List.pairwise_append.1 hp'
  have ht : ∀ a ∈ l.take q, ltQ a x := fun a ha => by
    obtain ⟨j, hj, rfl⟩ := List.getElem_of_mem ha
    have hj' : j < q ∧ j < l.length := by simp at hj; omega
    have := h1 j hj'.1 hj'.2
    simpa [List.getD, hj'.2] using this
  have hd : ∀ b ∈ l.drop q, ltQ x b := fun b hb => by
    obtain ⟨j, hj, rfl⟩ := List.getElem_of_mem hb
    have hj' : q + j < l.length := by simp at hj; omega
    have hq := h2 (by omega)
    have e0 : l.getD q 0 = l[q] := by simp [List.getD, show q < l.length by omega]
    rw [e0] at hq
    rw [List.getElem_drop]
    rcases Nat.eq_zero_or_pos j with h | h
    · subst h; exact hq
    · exact ltQ_trans hq (List.pairwise_iff_getElem.1 hp q (q + j) (by omega) hj' (by omega))
  refine List.pairwise_append.2 ⟨List.pairwise_append.2 ⟨p1, List.pairwise_singleton _ _, ?_⟩, p2, ?_⟩
  · intro a ha b hb
    simp at hb; subst hb
    exact ht a ha
  · intro a ha b hb
    rcases List.mem_append.1 ha with ha | ha
    · exact p3 a ha b hb
    · simp at ha; subst ha; exact hd b hb
/-- Sorted lists with the same members are the same. -/
theorem ltQ_asymm {x y : Int} (h1 : ltQ x y) (h2 : ltQ y x) : False := ltQ_irrefl (ltQ_trans h1 h2)
theorem ltQ_uniq : ∀ (l m : List Int), l.Pairwise ltQ → m.Pairwise ltQ → (∀ x, x ∈ l ↔ x ∈ m) → l = m
  | [], [], _, _, _ => rfl
  | [], b :: m, _, _, h => absurd ((h b).2 (by simp)) (by simp)
  | a :: l, [], _, _, h => absurd ((h a).1 (by simp)) (by simp)
  | a :: l, b :: m, hl, hm, h => by
    obtain ⟨h1, h2⟩ := List.pairwise_cons.1 hl
    obtain ⟨h3, h4⟩ := List.pairwise_cons.1 hm
    have e : a = b := by
      rcases List.mem_cons.1 ((h a).1 (by simp)) with e | e
      · exact e
      · rcases List.mem_cons.1 ((h b).2 (by simp)) with e' | e'
        · exact e'.symm
        · exact (ltQ_asymm (h3 _ e) (h1 _ e')).elim
    subst e
    rw [ltQ_uniq l m h2 h4 fun x => ⟨fun hx => ?_, fun hx => ?_⟩]
    · rcases List.mem_cons.1 ((h x).1 (by simp [hx])) with e | e
      · subst e; exact (ltQ_irrefl (h1 _ hx)).elim
      · exact e
    · rcases List.mem_cons.1 ((h x).2 (by simp [hx])) with e | e
      · subst e; exact (ltQ_irrefl (h3 _ hx)).elim
      · exact e
/-- The document's Norm of a list, as a list that is sorted and has its members. -/
structure Nsd (xs l : List Int) : Prop where
  pair : l.Pairwise ltQ
  mem : ∀ x, x ∈ l ↔ x ∈ xs
theorem Nsd.uniq {xs ys l m : List Int} (h : Nsd xs l) (h' : Nsd ys m) (he : ∀ x, x ∈ xs ↔ x ∈ ys) : l = m :=
  ltQ_uniq l m h.pair h'.pair fun x => (h.mem x).trans ((he x).trans (h'.mem x).symm)
theorem Nsd.says {xs l : List Int} (h : Nsd xs l) : saysL l = saysL xs := by
  rw [Bool.eq_iff_iff, saysL_iff, saysL_iff]
  constructor
  · intro hs x hx h0 hm
    exact hs x ((h.mem x).2 hx) h0 ((h.mem _).2 hm)
  · intro hs x hx h0 hm
    exact hs x ((h.mem x).1 hx) h0 ((h.mem _).1 hm)
end Go.Proofs.Ytjlmooimdogmjaa

namespace Go.Proofs.Ytjlmooimdogmjaa
open Go.RowKit

theorem addr_add (g o j : Nat) : (⟨g, o, none⟩ : Addr).add j = ⟨g, o + j, none⟩ := by
  by_cases e : j = 0
  · subst e; rfl
  · simp [Addr.add, e]
theorem cells_drop {w : World} {B : Nat} {e : TypeId} {g n cap : Nat} {l : List Int} (h : w.ownsRow B e 1 (.slice (some ⟨g, 0, none⟩) n cap) n (l.map (Value.int .i64))) (k : Nat) :
    ∀ j, j < n - k → w.cell? ((⟨g, k, none⟩ : Addr).add j) = some (.int .i64 ((l.drop k).getD j 0)) := fun j hj => by
  have hl := own_len h
  have hkj : k + j < l.length := by omega
  rw [addr_add, h.cellAt _ (by omega)]
  simp [List.getD, hkj]
theorem ins_mem (l : List Int) (k : Nat) (x y : Int) : y ∈ l.take k ++ [x] ++ l.drop k ↔ y ∈ l ∨ y = x := by
  have h : y ∈ l ↔ y ∈ l.take k ∨ y ∈ l.drop k := by
    conv => lhs; rw [← List.take_append_drop k l, List.mem_append]
  rw [h, List.mem_append, List.mem_append, List.mem_singleton]
  constructor
  · rintro ((a | a) | a)
    · exact .inl (.inl a)
    · exact .inr a
    · exact .inl (.inr a)
  · rintro ((a | a) | a)
    · exact .inl (.inl a)
    · exact .inr a
    · exact .inl (.inr a)
theorem take_mem (cs : List Int) (k : Nat) (h : k < cs.length) (x : Int) : x ∈ cs.take (k + 1) ↔ x ∈ cs.take k ∨ x = cs.getD k 0 := by
  rw [take_snoc cs k h]; simp

/-- What the outer loop keeps: a sorted row of the call's own with the same members as the first k of cs. -/
structure InsN (w0 : World) (cs : List Int) (k : Nat) (d : Value) (s : Bool) (l : List Int) (w : World) : Prop where
  below : Below w0.heap.size w0 w
  nil : l = [] → d = .slice none 0 0
  own : w.ownsRow w0.heap.size 3 1 d l.length (l.map (Value.int .i64))
  pair : l.Pairwise ltQ
  mem : ∀ x, x ∈ l ↔ x ∈ cs.take k
  says : s = saysL l
  len : l.length ≤ k

theorem InsN.draws {w0 w W : World} {cs : List Int} {k : Nat} {d : Value} {s : Bool} {l : List Int} (h : InsN w0 cs k d s l w) (hW : ∃ n, W = w.drewN n) : InsN w0 cs k d s l W :=
  ⟨h.below.trans ((below_draws hW).mono h.below.size), h.nil, own_keep h.own (below_draws hW), h.pair, h.mem, h.says, h.len⟩

theorem insN_step {w0 wt w9 : World} {xs l : List Int} {k q n9 : Nat} {d v9 : Value} {sb s' : Bool} {x : Int} (h : InsN w0 xs k d sb l wt) (hk : k < xs.length) (hx : xs.getD k 0 = x) (hnm : x ∉ l)
    (hq : ∀ j, j < q → ltQ (l.getD j 0) x) (hq2 : q < l.length → ltQ x (l.getD q 0)) (hn : n9 = l.length + 1) (hown : w9.ownsRow wt.heap.size 3 1 v9 n9 ((l.take q ++ [x] ++ l.drop q).map (Value.int .i64)))
    (hb : Below wt.heap.size wt w9) (hs : s' = (sb && !decide (-x ∈ l))) : Hid (InsN w0 xs (k + 1) v9 s' (l.take q ++ [x] ++ l.drop q) w9) := by
  subst hn
  have hsz := h.below.size
  have hl9 : (l.take q ++ [x] ++ l.drop q).length = l.length + 1 := own_len hown
  refine ⟨h.below.trans (hb.mono hsz), fun e => by rw [e] at hl9; simp at hl9, by rw [hl9]; exact own_base hown hsz, ins_pair l x q h.pair (fun j hj _ => hq j hj) hq2, fun y => ?_, ?_, by have := h.len; omega⟩
  · rw [ins_mem, take_mem xs k hk, hx, h.mem]
  · rw [hs, h.says, saysL_step l _ x hnm (ins_mem l q x)]

/-- What the document's Norm answers. -/
def NsPost (w : World) (xs : List Int) (e : Ending) (w' : World) : Prop :=
  ∃ v' l, e = .returned (.tuple #[v', .bool (saysL xs)]) ∧ Nsd xs l ∧ Below w.heap.size w w' ∧ w'.ownsRow w.heap.size 3 1 v' l.length (l.map (Value.int .i64))

end Go.Proofs.Ytjlmooimdogmjaa
