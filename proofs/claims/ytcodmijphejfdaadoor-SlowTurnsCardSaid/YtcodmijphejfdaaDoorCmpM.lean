/- The contract of slices.Compact on a row of masks of the call's own: what it leaves has the same members. Conditions: how the row lies in memory. -/
import Derived.Test.YtcodmijphejfdaaDoorTab
import Derived.Lib.SliceRun
import Derived.BigQuiet
import Derived.Deep.RegionWith
namespace Go.Proofs.YtcodmijphejfdaaDoor
open Go.RowKit

abbrev Mk := Nat × Nat
/-- Masks lie in the block b from off on, and may be written. -/
def MCel (w : World) (b off : Nat) (cur : List Mk) : Prop := ∀ j, j < cur.length → w.cell? ⟨b, off + j * 2, none⟩ = some (.int .i64 ((cur.getD j (0, 0)).1 : Int)) ∧ w.cell? ⟨b, off + j * 2 + 1, none⟩ = some (.int .i64 ((cur.getD j (0, 0)).2 : Int)) ∧ w.frozen? ⟨b, off + j * 2, none⟩ = false ∧ w.frozen? ⟨b, off + j * 2 + 1, none⟩ = false
theorem MCel.keep {w w' : World} {b off : Nat} {cur : List Mk} (h : MCel w b off cur) (hlt : b < w.heap.size) (hb : Below w.heap.size w w') : MCel w' b off cur := fun j hj => by
  obtain ⟨h1, h2, h3, h4⟩ := h j hj
  exact ⟨(hb.cell (p := ⟨b, off + j * 2, none⟩) hlt).trans h1, (hb.cell (p := ⟨b, off + j * 2 + 1, none⟩) hlt).trans h2, (hb.frozen (p := ⟨b, off + j * 2, none⟩) hlt).trans h3, (hb.frozen (p := ⟨b, off + j * 2 + 1, none⟩) hlt).trans h4⟩
theorem getD_setM (V : List Mk) (m : Nat) (x : Mk) (i : Nat) : (V.set m x).getD i (0, 0) = if m = i ∧ i < V.length then x else V.getD i (0, 0) := by
  simp only [List.getD, List.getElem?_set]
  by_cases h1 : m = i
  · subst h1
    by_cases h2 : m < V.length
    · simp [h2]
    · simp [h2]
  · simp [h1]
theorem MCel.set {w : World} {b off : Nat} {cur : List Mk} (h : MCel w b off cur) (k : Nat) (P M : Nat) : MCel ((w.setCell ⟨b, off + k * 2, none⟩ (.int .i64 (P : Int))).setCell ⟨b, off + k * 2 + 1, none⟩ (.int .i64 (M : Int))) b off (cur.set k (P, M)) := fun j hj => by
  have hj' : j < cur.length := by simpa using hj
  obtain ⟨h1, h2, h3, h4⟩ := h j hj'
  have o : ∀ (W : World) (j j' : Nat) (v : Value), j ≠ j' → (W.setCell ⟨b, j, none⟩ v).cell? ⟨b, j', none⟩ = W.cell? ⟨b, j', none⟩ := fun W j j' v h => World.cell?_setCell_other _ _ _ _ (fun e => by injection e with e1 e2; omega)
  rw [getD_setM]
  refine ⟨?_, ?_, ?_, ?_⟩
  · by_cases e : k = j
    · subst e
      rw [if_pos ⟨rfl, hj'⟩, o _ _ _ _ (by omega)]
      exact World.cell?_setCell_same _ _ _ h1
    · rw [if_neg (fun hh => e hh.1), o _ _ _ _ (by omega), o _ _ _ _ (by omega)]
      exact h1
  · by_cases e : k = j
    · subst e
      rw [if_pos ⟨rfl, hj'⟩]
      exact World.cell?_setCell_same _ _ _ ((o _ _ _ _ (by omega)).trans h2)
    · rw [if_neg (fun hh => e hh.1), o _ _ _ _ (by omega), o _ _ _ _ (by omega)]
      exact h2
  · rw [World.frozen?_setCell, World.frozen?_setCell]; exact h3
  · rw [World.frozen?_setCell, World.frozen?_setCell]; exact h4
theorem MCel.row {w : World} {b off : Nat} {cur : List Mk} (h : MCel w b off cur) (hb : b < w.heap.size) (c : Nat) (h1 : cur.length ≤ c) (h2 : c ≤ maxLen) : RowM w (.slice (some ⟨b, off, none⟩) cur.length c) cur :=
  ⟨_, _, rfl, h1, h2, .inr ⟨b, off, rfl, hb, fun j hj => ⟨(h j hj).1, (h j hj).2.1⟩⟩⟩

/-- What holds in the second loop: kk masks kept of the first m. -/
structure CpI (D cur : List Mk) (kk m : Nat) : Prop where
  len : cur.length = D.length
  lt : kk < m
  le : m ≤ D.length
  high : ∀ j, m ≤ j + 1 → cur.getD j (0, 0) = D.getD j (0, 0)
  mem : ∀ x, x ∈ cur.take kk ↔ x ∈ D.take m
theorem take_memM (D : List Mk) (m : Nat) (h : m < D.length) (x : Mk) : x ∈ D.take (m + 1) ↔ x ∈ D.take m ∨ x = D.getD m (0, 0) := by
  rw [List.take_succ_eq_append_getElem h, List.mem_append, List.mem_singleton]
  simp [List.getD, h]
theorem getD_takeM (D : List Mk) (i m : Nat) (h : i < m) (hm : m ≤ D.length) : D.getD i (0, 0) ∈ D.take m := by
  have hi : i < (D.take m).length := by rw [List.length_take]; omega
  have : D.getD i (0, 0) = (D.take m)[i] := by simp [List.getD, show i < D.length by omega]
  rw [this]
  exact List.getElem_mem hi
theorem CpI.start {D : List Mk} {k : Nat} (h1 : 1 ≤ k) (h2 : k < D.length) (h : D.getD k (0, 0) = D.getD (k - 1) (0, 0)) : CpI D D k (k + 1) where
  len := rfl
  lt := by omega
  le := by omega
  high := fun _ _ => rfl
  mem := fun x => by
    rw [take_memM D k h2, h]
    exact ⟨.inl, fun a => a.elim id fun e => by rw [e]; exact getD_takeM D (k - 1) k (by omega) (by omega)⟩
theorem CpI.skip {D cur : List Mk} {kk m : Nat} (h : CpI D cur kk m) (h1 : 1 ≤ m) (h2 : m < D.length) (e : D.getD m (0, 0) = D.getD (m - 1) (0, 0)) : CpI D cur kk (m + 1) where
  len := h.len
  lt := by have := h.lt; omega
  le := by omega
  high := fun j hj => h.high j (by omega)
  mem := fun x => by
    rw [take_memM D m h2, e, h.mem]
    exact ⟨.inl, fun a => a.elim id fun e => by rw [e]; exact getD_takeM D (m - 1) m (by omega) (by omega)⟩
theorem CpI.put {D cur : List Mk} {kk m : Nat} (h : CpI D cur kk m) (h2 : m < D.length) : CpI D (cur.set kk (D.getD m (0, 0))) (kk + 1) (m + 1) where
  len := by rw [List.length_set]; exact h.len
  lt := by have := h.lt; omega
  le := by omega
  high := fun j hj => by
    have := h.lt
    rw [getD_setM, if_neg (fun hh => by omega)]
    exact h.high j (by omega)
  mem := fun x => by
    have hlt := h.lt
    have hlen := h.len
    rw [take_memM D m h2, ← h.mem, take_memM _ kk (by rw [List.length_set]; omega), getD_setM, if_pos ⟨rfl, by omega⟩, List.take_set_of_le (Nat.le_refl kk)]
theorem below_setCells {B : Nat} {w : World} (b : Nat) (hb : B ≤ b) : ∀ (vs : List Value) (o : Nat) (w' : World), Below B w w' → Below B w (w'.setCells b o vs)
  | [], _, _, h => h
  | v :: r, o, _, h => below_setCells b hb r (o + 1) _ (h.setCell hb v)
theorem run_clear_two {P : Program} (w : World) (t e ty : TypeId) (z : Value) (ht : P.underlying t = some (.slice e)) (hv : ∀ w, (zeroValue e).run P w = .ok z w) (hz : z.cells = #[.int .i64 0, .int .i64 0]) (b o n c : Nat) (hn : 0 < n)
    (hc : ∀ j, j < n * 2 → (w.cell? ⟨b, o + j, none⟩).isSome = true) (hf : ∀ j, j < n * 2 → w.frozen? ⟨b, o + j, none⟩ = false) :
    (Builtin.clear_ #[t] ty #[.slice (some ⟨b, o, none⟩) n c]).run P w = .ok (.tuple #[]) (w.setCells b o (List.replicate (n * 2) (.int .i64 0))) := by
  have hzc : (Builtin.zeroCells z.cells n).toList = List.replicate (n * 2) (.int .i64 0) := by
    rw [hz]
    simp [Builtin.zeroCells]
    apply List.ext_getElem
    · simp
    · intro i h1 h2
      rcases Nat.mod_two_eq_zero_or_one i with e | e <;> simp [e]
  have hst := run_storeCells_cells (P := P) b o (List.replicate (n * 2) (.int .i64 0)) 0 w (by simpa using hc) (by simpa using hf) (by intro v hv'; rw [List.eq_of_mem_replicate hv']; rfl)
  simp only [Nat.add_zero] at hst
  obtain ⟨m, rfl⟩ : ∃ m, n = m + 1 := ⟨n - 1, by omega⟩
  simp [Builtin.clear_, run_underlying ht, hv, hzc, hst]
end Go.Proofs.YtcodmijphejfdaaDoor
