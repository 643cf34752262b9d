/- A slice just made, as its block lies ('wpList_makeH'); a row that lies so is owned; what copy from place 1 on comes to. No conditions beyond those typed. -/
import Derived.Test.YtmgepagdkfghlaaDoorLkA
import Derived.Laws.CopyOwn
namespace Go.Proofs.YtmgepagdkfghlaaDoor
open Go.RowKit

theorem own_at {W : World} {g B n : Nat} {E : TypeId} {xs : List Value} (h : W.heap[g]? = some (.cells xs.toArray E (0, 0))) (hB : B ≤ g) (hn : xs.length = n) (hm : n ≤ maxLen) : W.ownsRow B E 1 (.slice (some ⟨g, 0, none⟩) n n) n xs :=
  ⟨by omega, .inr ⟨g, n, _, rfl, hB, h, Nat.le_refl _, hm, by simp [hn], by rw [← hn]; simp⟩⟩
theorem made_at {W : World} {g B n : Nat} {E : TypeId} {xs : List Value} (h : W.ownsRow B E 1 (.slice (some ⟨g, 0, none⟩) n n) n xs) : W.heap[g]? = some (.cells xs.toArray E (0, 0)) := by
  obtain ⟨h0, h1⟩ := h
  rcases h1 with ⟨e, _⟩ | ⟨g', cap, cur, e, _, hg, _, _, hs, ht⟩
  · cases e
  · injection e with e1 _ e3
    injection e1 with e1
    injection e1 with e1
    subst e1; subst e3
    have : cur = xs.toArray := by
      apply Array.ext'
      rw [← ht]
      rw [List.take_of_length_le (by rw [Array.length_toList]; omega)]
    rw [hg, this]

/-- 'make([]T, n)', T of one cell: the block as it lies. -/
theorem wpList_makeH {α : Type} (mk : α → Value) (d : α) {ops : Array Oper} {rest : List Oper} {o : Oper} {a : Act} {Q : Exit → Act → World → Prop} (T E : TypeId) (bytes : Nat) (hT : Tryd.prog.underlying T = some (.slice E))
    (hE : (Tryd.prog.info? E).map (fun i => (i.zero, i.size, i.bytes)) = some (some (mk d), 1, bytes)) (hzc : (mk d).cells = #[mk d]) (hby : bytes ≤ 100)
    (hgd : o.guard = none) (l c : Operand) (ho : o.op = Op.makeSlice T l c)
    (w : World) (n : Nat) (hl : a.eval l = .int .i64 (n : Int)) (hc : a.eval c = .int .i64 (n : Int)) (hn : n < 1099511627776)
    (h : ∀ w', w'.heap[w.heap.size]? = some (.cells ((List.replicate n d).map mk).toArray E (0, 0)) → Below w.heap.size w w' → w.heap.size < w'.heap.size → wpList Tryd.prog ops Q rest (a.put o.dst (.slice (some ⟨w.heap.size, 0, none⟩) n n)) w') :
    wpList Tryd.prog ops Q (o :: rest) a w := by
  obtain ⟨i0, hi, hz0, hz1, hz2⟩ := info_parts hE
  refine wpList_make_full _ hgd l c T ho w.heap.size E i0 (mk d) 1 hT hi hz0 hz1 _ _ _ _ n hl hc rfl rfl (by rw [hz2]; exact Nat.le_trans (Nat.mul_le_mul hby (Nat.le_of_lt hn)) (by decide)) (by unfold maxLen; omega) (Nat.le_refl _) ?_
  intro w' h1 h2
  have hlt := h1.lt w.heap.size rfl
  have hz : (madeCells (mk d).cells (n * 1)).toList = (List.replicate n d).map mk := by
    rw [hzc]
    apply List.ext_getElem (by simp [madeCells])
    intro i _ _
    simp [madeCells, Nat.mod_one]
  rw [hz] at h1
  exact h w' (made_at h1) ((Below.refl _ w).grown h2 (Nat.le_refl _) fun k hk => by cases hk) hlt.2

theorem range_getD {α : Type} (d : α) (xs : List α) (N : Nat) : ((List.range N).map fun i => xs.getD i d) = xs.take N ++ List.replicate (N - xs.length) d := by
  apply List.ext_getElem?
  intro i
  by_cases h : i < N
  · by_cases h2 : i < xs.length
    · rw [List.getElem?_append_left (by simp; omega)]
      simp [h, h2]
    · rw [List.getElem?_append_right (by simp; omega)]
      simp only [List.getElem?_map, List.getElem?_range h, Option.map_some, List.length_take, List.getElem?_replicate]
      rw [if_pos (by omega)]
      simp [show xs.length ≤ i by omega]
  · simp [h]; omega
theorem splice_in {α : Type} (mk : α → Value) (d : α) (N m : Nat) (xs : List α) : splice ((List.replicate (N + 1 + m) d).map mk) 1 ((xs.take N).map mk) = ((d :: (List.range N).map fun i => xs.getD i d) ++ List.replicate m d).map mk := by
  rw [range_getD]
  unfold splice
  rw [← List.map_take, ← List.map_drop, List.take_replicate, List.drop_replicate]
  simp only [List.length_map, List.length_take, List.map_append, List.map_cons, List.map_replicate]
  rw [show min 1 (N + 1 + m) = 1 by omega]
  simp only [List.replicate_one, List.cons_append, List.nil_append, List.append_assoc, List.replicate_append_replicate]
  congr 3
  omega
theorem inV_in (N : Nat) (ins : List Bool) : splice ((List.replicate (N + 1) false).map Value.bool) 1 ((ins.take N).map Value.bool) = (inV N ins).map Value.bool := by
  have := splice_in Value.bool false N 0 ins
  rw [Nat.add_zero] at this
  rw [this]
  simp [inV]
theorem inL_in (N m : Nat) (by_ : List Int) : splice ((List.replicate (N + 1 + m) 0).map (Value.int .i64)) 1 ((by_.take N).map (Value.int .i64)) = (inL N m by_).map (Value.int .i64) := splice_in (Value.int .i64) 0 N m by_
end Go.Proofs.YtmgepagdkfghlaaDoor
