/- The contract of skolemmake.Circuit: a right circuit in memory of the call's own. Conditions: the slices read as 64-bit ints and are short; at most 50 inputs. -/
import Derived.Test.YtmgepagdkfghlaaDoorGrB
import Derived.Test.YtmgepagdkfghlaaDoorCir
import Derived.Test.YtmgepagdkfghlaaDoorBst
import Derived.Test.YtmgepagdkfghlaaDoorSmall
import Derived.Deep.RegionHeld3
namespace Go.Proofs.YtmgepagdkfghlaaDoor
open Go.RowKit

theorem okA_snoc {n : Nat} {ps : List (Int × Int)} (h : ∀ k, k < ps.length → okP n k (ps.getD k (0, 0)) = true) {x : Int × Int} (hx : okP n ps.length x = true) : ∀ k, k < (ps ++ [x]).length → okP n k ((ps ++ [x]).getD k (0, 0)) = true := by
  intro k hk
  simp only [List.length_append, List.length_singleton] at hk
  by_cases e : k < ps.length
  · rw [show (ps ++ [x]).getD k (0, 0) = ps.getD k (0, 0) by simp [List.getD, List.getElem?_append_left e]]; exact h k e
  · have e2 : k = ps.length := by omega
    subst e2
    rw [show (ps ++ [x]).getD ps.length (0, 0) = x by simp [List.getD]]; exact hx
theorem okP_mod (n k : Nat) (a b : Int) : okP n k (max (a % (2 * ((n : Int) + k + 1))) (b % (2 * ((n : Int) + k + 1))), min (a % (2 * ((n : Int) + k + 1))) (b % (2 * ((n : Int) + k + 1)))) = true := by
  have h1 := Int.emod_nonneg a (show (2 * ((n : Int) + k + 1)) ≠ 0 by omega)
  have h2 := Int.emod_lt_of_pos a (show (0 : Int) < 2 * ((n : Int) + k + 1) by omega)
  have h3 := Int.emod_nonneg b (show (2 * ((n : Int) + k + 1)) ≠ 0 by omega)
  have h4 := Int.emod_lt_of_pos b (show (0 : Int) < 2 * ((n : Int) + k + 1) by omega)
  rw [okP_iff]
  simp only
  omega
theorem okO_mod (n m : Nat) (a : Int) : okO (n + m) (a % (2 * ((n : Int) + m + 1))) = true := by
  have h1 := Int.emod_nonneg a (show (2 * ((n : Int) + m + 1)) ≠ 0 by omega)
  have h2 := Int.emod_lt_of_pos a (show (0 : Int) < 2 * ((n : Int) + m + 1) by omega)
  rw [okO_iff]
  omega

/-- The circuit's own cells at r + 1, the result's at r. -/
structure CX (W : World) (r : Nat) (n : Int) (u o : Value) : Prop where
  c0 : W.cell? ⟨r + 1, 0, none⟩ = some (.int .i64 n)
  c1 : W.cell? ⟨r + 1, 1, none⟩ = some u
  c2 : W.cell? ⟨r + 1, 2, none⟩ = some o
  fr : ∀ k, W.frozen? ⟨r + 1, k, none⟩ = false
  r0 : W.cell? ⟨r, 0, none⟩ = some (.int .i64 0)
  r1 : W.cell? ⟨r, 1, none⟩ = some (.slice none 0 0)
  r2 : W.cell? ⟨r, 2, none⟩ = some (.slice none 0 0)
  rf : ∀ k, W.frozen? ⟨r, k, none⟩ = false
  sz : r + 2 ≤ W.heap.size
theorem CX.below {W W' : World} {r : Nat} {n : Int} {u o : Value} (h : CX W r n u o) (hb : Below (r + 2) W W') : CX W' r n u o where
  c0 := (hb.cell (p := ⟨r + 1, 0, none⟩) (Nat.lt_succ_self _)).trans h.c0
  c1 := (hb.cell (p := ⟨r + 1, 1, none⟩) (Nat.lt_succ_self _)).trans h.c1
  c2 := (hb.cell (p := ⟨r + 1, 2, none⟩) (Nat.lt_succ_self _)).trans h.c2
  fr := fun k => (hb.frozen (p := ⟨r + 1, k, none⟩) (Nat.lt_succ_self _)).trans (h.fr k)
  r0 := (hb.cell (p := ⟨r, 0, none⟩) (by show r < r + 2; omega)).trans h.r0
  r1 := (hb.cell (p := ⟨r, 1, none⟩) (by show r < r + 2; omega)).trans h.r1
  r2 := (hb.cell (p := ⟨r, 2, none⟩) (by show r < r + 2; omega)).trans h.r2
  rf := fun k => (hb.frozen (p := ⟨r, k, none⟩) (by show r < r + 2; omega)).trans (h.rf k)
  sz := Nat.le_trans h.sz hb.size
theorem set_at {W : World} {b i : Nat} {v u : Value} (h : W.cell? ⟨b, i, none⟩ = some v) : (W.setCell ⟨b, i, none⟩ u).cell? ⟨b, i, none⟩ = some u := World.cell?_setCell_same (w := W) (h := h) ..
theorem set_off {W : World} {b i b' j : Nat} {u : Value} (h : b ≠ b' ∨ i ≠ j) : (W.setCell ⟨b, i, none⟩ u).cell? ⟨b', j, none⟩ = W.cell? ⟨b', j, none⟩ :=
  World.cell?_setCell_other (w := W) (h := fun e => by injection e with e1 e2; rcases h with h | h <;> omega) ..
theorem CX.set1 {W : World} {r : Nat} {n : Int} {u o : Value} (h : CX W r n u o) (u' : Value) : CX (W.setCell ⟨r + 1, 1, none⟩ u') r n u' o where
  c0 := (set_off (.inr (by decide))).trans h.c0
  c1 := set_at h.c1
  c2 := (set_off (.inr (by decide))).trans h.c2
  fr := fun k => (World.frozen?_setCell _ _ _ _).trans (h.fr k)
  r0 := (set_off (.inl (by omega))).trans h.r0
  r1 := (set_off (.inl (by omega))).trans h.r1
  r2 := (set_off (.inl (by omega))).trans h.r2
  rf := fun k => (World.frozen?_setCell _ _ _ _).trans (h.rf k)
  sz := by have := h.sz; simpa using this
theorem CX.set2 {W : World} {r : Nat} {n : Int} {u o : Value} (h : CX W r n u o) (o' : Value) : CX (W.setCell ⟨r + 1, 2, none⟩ o') r n u o' where
  c0 := (set_off (.inr (by decide))).trans h.c0
  c1 := (set_off (.inr (by decide))).trans h.c1
  c2 := set_at h.c2
  fr := fun k => (World.frozen?_setCell _ _ _ _).trans (h.fr k)
  r0 := (set_off (.inl (by omega))).trans h.r0
  r1 := (set_off (.inl (by omega))).trans h.r1
  r2 := (set_off (.inl (by omega))).trans h.r2
  rf := fun k => (World.frozen?_setCell _ _ _ _).trans (h.rf k)
  sz := by have := h.sz; simpa using this
theorem CX.start (w : World) (n : Int) (T : TypeId) : CX ((w.alloc (.cells #[.int .i64 0, .slice none 0 0, .slice none 0 0] T)).alloc (.cells #[.int .i64 n, .slice none 0 0, .slice none 0 0] T)) w.heap.size n (.slice none 0 0) (.slice none 0 0) := by
  have hz : (w.alloc (.cells #[.int .i64 0, .slice none 0 0, .slice none 0 0] T)).heap.size = w.heap.size + 1 := by simp
  have hn := heap_alloc_new (w.alloc (.cells #[.int .i64 0, .slice none 0 0, .slice none 0 0] T)) (.cells #[.int .i64 n, .slice none 0 0, .slice none 0 0] T)
  rw [hz] at hn
  have ho := heap_alloc_new w (.cells #[.int .i64 0, .slice none 0 0, .slice none 0 0] T)
  have hb : Below (w.heap.size + 1) (w.alloc (.cells #[.int .i64 0, .slice none 0 0, .slice none 0 0] T)) ((w.alloc (.cells #[.int .i64 0, .slice none 0 0, .slice none 0 0] T)).alloc (.cells #[.int .i64 n, .slice none 0 0, .slice none 0 0] T)) := (Below.refl _ _).alloc (by simp) _
  refine ⟨?_, ?_, ?_, fun k => ?_, ?_, ?_, ?_, fun k => ?_, by simp⟩
  · rw [cell_of_row _ _ 0 _ T (0, 0) hn]; rfl
  · rw [cell_of_row _ _ 1 _ T (0, 0) hn]; rfl
  · rw [cell_of_row _ _ 2 _ T (0, 0) hn]; rfl
  · simp only [World.frozen?, hn]; simp
  · rw [hb.cell (p := ⟨w.heap.size, 0, none⟩) (Nat.lt_succ_self _), cell_of_row _ _ 0 _ T (0, 0) ho]; rfl
  · rw [hb.cell (p := ⟨w.heap.size, 1, none⟩) (Nat.lt_succ_self _), cell_of_row _ _ 1 _ T (0, 0) ho]; rfl
  · rw [hb.cell (p := ⟨w.heap.size, 2, none⟩) (Nat.lt_succ_self _), cell_of_row _ _ 2 _ T (0, 0) ho]; rfl
  · rw [hb.frozen (p := ⟨w.heap.size, k, none⟩) (Nat.lt_succ_self _)]; simp only [World.frozen?, ho]; simp
end Go.Proofs.YtmgepagdkfghlaaDoor
