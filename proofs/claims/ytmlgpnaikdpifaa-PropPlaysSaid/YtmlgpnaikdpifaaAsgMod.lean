/- Words on slices of bools; contracts of assign.Assign.Model, assign.holds and assign.Of. Conditions: the literals lie strictly inside the 64 bits. -/
import Derived.Test.YtmlgpnaikdpifaaAsgCl
import Derived.Test.YtmlgpnaikdpifaaCheckP
namespace Go.Proofs.Ytmlgpnaikdpifaa
open Go.RowKit

/-- The value v is a slice of bools that reads as bs. -/
def BRow (w : World) (v : Value) (bs : List Bool) : Prop :=
  ∃ a c, v = .slice a bs.length c ∧ bs.length ≤ c ∧ c ≤ maxLen ∧ (bs.length = 0 ∨ ∃ b off, a = some ⟨b, off, none⟩ ∧ b < w.heap.size ∧ ∀ i, i < bs.length → w.cell? ⟨b, off + i, none⟩ = some (.bool (bs.getD i false)))
theorem BRow.keep {w w' : World} {v : Value} {bs : List Bool} (h : BRow w v bs) (hb : Below w.heap.size w w') : BRow w' v bs := by
  obtain ⟨a, c, e, h1, h2, h3⟩ := h
  refine ⟨a, c, e, h1, h2, ?_⟩
  rcases h3 with h3 | ⟨b, off, e, hlt, hc⟩
  · exact .inl h3
  · exact .inr ⟨b, off, e, Nat.lt_of_lt_of_le hlt hb.size, fun i hi => (hb.cell (p := ⟨b, off + i, none⟩) hlt).trans (hc i hi)⟩

structure BCel (w : World) (q : Nat) (xs : List Bool) : Prop where
  sq : q < w.heap.size
  cells : ∀ i, i < xs.length → w.cell? ⟨q, i, none⟩ = some (.bool (xs.getD i false))
  free : ∀ i, w.frozen? ⟨q, i, none⟩ = false
theorem getD_setB (V : List Bool) (m : Nat) (x : Bool) (i : Nat) : (V.set m x).getD i false = if m = i ∧ i < V.length then x else V.getD i false := by
  simp only [List.getD, List.getElem?_set]
  by_cases h1 : m = i
  · subst h1
    by_cases h2 : m < V.length
    · simp [h2]
    · simp [h2]
  · simp [h1]
theorem BCel.set {w : World} {q : Nat} {xs : List Bool} (h : BCel w q xs) (m : Nat) (x : Bool) : BCel (w.setCell ⟨q, m, none⟩ (.bool x)) q (xs.set m x) where
  sq := by simpa [World.setCell] using h.sq
  cells := fun i hi => by
    have hi' : i < xs.length := by simpa using hi
    rw [getD_setB]
    by_cases e : m = i
    · subst e
      rw [if_pos ⟨rfl, hi'⟩]
      exact World.cell?_setCell_same (w := w) (h := h.cells m hi') ..
    · rw [if_neg (fun hh => e hh.1), ← h.cells i hi']
      exact World.cell?_setCell_other (w := w) (h := fun hh => e (by injection hh)) ..
  free := fun i => (World.frozen?_setCell _ _ _ _).trans (h.free i)
theorem BCel.row {w : World} {q : Nat} {xs : List Bool} (h : BCel w q xs) (hl : xs.length ≤ 4001) : BRow w (.slice (some ⟨q, 0, none⟩) xs.length xs.length) xs :=
  ⟨_, _, rfl, Nat.le_refl _, by unfold maxLen; omega, .inr ⟨q, 0, rfl, h.sq, fun i hi => by rw [Nat.zero_add]; exact h.cells i hi⟩⟩

theorem infoBool : (Try.prog.info? 4).map (fun i => (i.zero, i.size, i.bytes)) = some (some (.bool false), 1, 1) := by kernel_rfl

theorem wpList_makeB {ops : Array Oper} {rest : List Oper} {o : Oper} {a : Act} {Q : Exit → Act → World → Prop} (hgd : o.guard = none) (l c : Operand) (ho : o.op = Op.makeSlice 63 l c)
    (w : World) (n : Nat) (hl : a.eval l = .int .i64 (n : Int)) (hc : a.eval c = .int .i64 (n : Int)) (hn0 : 0 < n) (hn : n < 1099511627776)
    (h : ∀ w', BCel w' w.heap.size (List.replicate n false) → Below w.heap.size w w' → w.heap.size < w'.heap.size → wpList Try.prog ops Q rest (a.put o.dst (.slice (some ⟨w.heap.size, 0, none⟩) n n)) w') :
    wpList Try.prog ops Q (o :: rest) a w := by
  obtain ⟨i0, hi, hz0, hz1, hz2⟩ := info_parts infoBool
  refine wpList_make_full _ hgd l c 63 ho w.heap.size 4 i0 (.bool false) 1 Try.underlying63 hi hz0 hz1 _ _ _ _ n hl hc rfl rfl (by rw [hz2]; omega) (by unfold maxLen; omega) (Nat.le_refl _) ?_
  intro w' h1 h2
  have hlt := h1.lt w.heap.size rfl
  refine h w' ?_ ((Below.refl _ w).grown h2 (Nat.le_refl _) fun k hk => by cases hk) hlt.2
  have hz : (madeCells (Value.bool false).cells (n * 1)).toList = List.replicate n (Value.bool false) := by
    apply List.ext_getElem (by simp [madeCells])
    intro i _ _
    simp [madeCells, Value.cells, Nat.mod_one]
  rw [hz] at h1
  rcases h1.2 with ⟨e0, _⟩ | ⟨g, cap, cur, e0, _, hg, hc1, hc2, hc3, hc4⟩
  · cases e0
  · injection e0 with e0 _ e1
    injection e0 with e0
    injection e0 with e0
    subst e0; subst e1
    refine ⟨hlt.2, fun i hi => ?_, fun i => by simp [World.frozen?, hg]⟩
    have hi' : i < n := by simpa using hi
    have hget : cur.toList[i]? = some (Value.bool false) := by
      have : (cur.toList.take (n * 1))[i]? = some (Value.bool false) := by rw [hc4]; simp [hi']
      rw [List.getElem?_take] at this
      rw [if_pos (by omega)] at this
      exact this
    simp only [World.cell?, hg]
    have : cur[i]? = some (Value.bool false) := by rw [← hget]; simp
    rw [List.getD, List.getElem?_replicate, if_pos hi']
    simpa using this

/-- The model of values. -/
def modelL (V : List Int) : List Bool := V.map fun x => x == 1
theorem modelL_get (V : List Int) (i : Nat) : (modelL V).getD i false = (V.getD i 0 == 1) := by
  unfold modelL
  by_cases h : i < V.length
  · simp [List.getD, h]
  · simp [List.getD, h]
theorem getD_extB {xs ys : List Bool} (h : xs.length = ys.length) (k : ∀ j, j < xs.length → xs.getD j false = ys.getD j false) : xs = ys := by
  apply List.ext_getElem h
  intro i h1 h2
  have := k i h1
  simpa [List.getD, h1, h2] using this

def ModelPost (w : World) (V : List Int) (e : Ending) (w' : World) : Prop :=
  e = .returned (.slice (some ⟨w.heap.size, 0, none⟩) V.length V.length) ∧ BCel w' w.heap.size (modelL V) ∧ Below w.heap.size w w'

/-- The literal is true in the model. -/
def holdsL (bs : List Bool) (l : Int) : Bool := (decide (1 ≤ plc l) && decide (plc l < bs.length)) && (bs.getD (plc l) false == decide (0 < l))
def ofC (bs : List Bool) (c : List Int) : Bool := c.any (holdsL bs)
def ofL (cs : List (List Int)) (bs : List Bool) : Bool := cs.all (ofC bs)

theorem any_snoc (f : Int → Bool) (xs : List Int) (k : Nat) (h : k < xs.length) : (xs.take (k + 1)).any f = ((xs.take k).any f || f (xs.getD k 0)) := by
  rw [take_snoc xs k h, List.any_append]; simp
theorem any_true (f : Int → Bool) (xs : List Int) (k : Nat) (h : k < xs.length) (hf : f (xs.getD k 0) = true) : xs.any f = true := by
  rw [List.any_eq_true]
  exact ⟨xs[k], List.getElem_mem h, by simpa [List.getD, h] using hf⟩

theorem ofL_succ (cs : List (List Int)) (bs : List Bool) (k : Nat) (h : k < cs.length) : ofL (cs.take (k + 1)) bs = (ofL (cs.take k) bs && ofC bs (cs.getD k [])) := by
  unfold ofL
  rw [List.take_succ_eq_append_getElem h, List.all_append]; simp [List.getD, h]
theorem ofL_no (cs : List (List Int)) (bs : List Bool) (k : Nat) (h : k < cs.length) (hf : ofC bs (cs.getD k []) = false) : ofL cs bs = false := by
  unfold ofL
  rw [List.all_eq_false]
  exact ⟨cs[k], List.getElem_mem h, by rw [show cs[k] = cs.getD k [] by simp [List.getD, h], hf]; simp⟩
theorem row_inW {xss : List (List Int)} (h : ∀ xs ∈ xss, InW xs) (k : Nat) : InW (xss.getD k []) := by
  by_cases hk : k < xss.length
  · have := h _ (List.getElem_mem hk); simpa [List.getD, hk] using this
  · intro x hx; simp [List.getD, show xss.length ≤ k by omega] at hx

end Go.Proofs.Ytmlgpnaikdpifaa
