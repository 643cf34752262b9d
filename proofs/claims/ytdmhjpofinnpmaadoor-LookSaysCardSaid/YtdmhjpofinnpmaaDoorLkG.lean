/- The contract of skolemlaw10.first: yes. A circuit in a variable ('CV'). Conditions: the two errors lie as 'Sents2' says. -/
import Derived.Test.YtdmhjpofinnpmaaDoorLkN
import Derived.Test.YtdmhjpofinnpmaaDoorLkD
namespace Go.Proofs.YtdmhjpofinnpmaaDoor
open Go.RowKit

/-- A variable of type api.Circuit at block b. -/
structure CV (W : World) (b : Nat) (n : Int) (u o : Value) : Prop where
  c0 : W.cell? ⟨b, 0, none⟩ = some (.int .i64 n)
  c1 : W.cell? ⟨b, 1, none⟩ = some u
  c2 : W.cell? ⟨b, 2, none⟩ = some o
  fr : ∀ k, W.frozen? ⟨b, k, none⟩ = false
  lt : b < W.heap.size
theorem CV.keep {W W' : World} {b : Nat} {n : Int} {u o : Value} (h : CV W b n u o) (hb : Below W.heap.size W W') : CV W' b n u o where
  c0 := (hb.cell (p := ⟨b, 0, none⟩) h.lt).trans h.c0
  c1 := (hb.cell (p := ⟨b, 1, none⟩) h.lt).trans h.c1
  c2 := (hb.cell (p := ⟨b, 2, none⟩) h.lt).trans h.c2
  fr := fun k => (hb.frozen (p := ⟨b, k, none⟩) h.lt).trans (h.fr k)
  lt := Nat.lt_of_lt_of_le h.lt hb.size
theorem CV.set1 {W : World} {b : Nat} {n : Int} {u o : Value} (h : CV W b n u o) (u' : Value) : CV (W.setCell ⟨b, 1, none⟩ u') b n u' o where
  c0 := (set_off (.inr (by decide))).trans h.c0
  c1 := set_at h.c1
  c2 := (set_off (.inr (by decide))).trans h.c2
  fr := fun k => (World.frozen?_setCell _ _ _ _).trans (h.fr k)
  lt := by have := h.lt; simpa using this
theorem CV.set2 {W : World} {b : Nat} {n : Int} {u o : Value} (h : CV W b n u o) (o' : Value) : CV (W.setCell ⟨b, 2, none⟩ o') b n u o' where
  c0 := (set_off (.inr (by decide))).trans h.c0
  c1 := (set_off (.inr (by decide))).trans h.c1
  c2 := set_at h.c2
  fr := fun k => (World.frozen?_setCell _ _ _ _).trans (h.fr k)
  lt := by have := h.lt; simpa using this
theorem CV.new (w : World) (n : Int) (u o : Value) (T : TypeId) : CV (w.alloc (.cells #[.int .i64 n, u, o] T)) w.heap.size n u o where
  c0 := by rw [cell_of_row _ _ 0 _ T (0, 0) (heap_alloc_new _ _)]; rfl
  c1 := by rw [cell_of_row _ _ 1 _ T (0, 0) (heap_alloc_new _ _)]; rfl
  c2 := by rw [cell_of_row _ _ 2 _ T (0, 0) (heap_alloc_new _ _)]; rfl
  fr := fun k => by simp only [World.frozen?, heap_alloc_new]; simp
  lt := by simp
/-- A row of ints just laid. -/
theorem row_lit (w : World) (xs : List Int) (hl : xs.length ≤ 1000000) : Row (w.alloc (.cells (xs.map (Value.int .i64)).toArray 3)) (.slice (some ⟨w.heap.size, 0, none⟩) xs.length xs.length) xs := by
  have := own_lit w w.heap.size 3 (xs.map (Value.int .i64)) (Nat.le_refl _) (by rw [List.length_map]; exact hl)
  rw [List.length_map] at this
  exact own_row this

set_option maxRecDepth 8000 in
set_option maxHeartbeats 2000000 in
theorem first10_any (A : Nat → Addr) (w : World) (hs : Sents2 w A) :
    Calls Tryd.prog 7 #[] w fun e w' => e = .returned (.bool true) ∧ Below w.heap.size w w' := by
  have HR : Hid (Row (w.alloc (.cells #[.int .i64 3] 3)) (.slice (some ⟨w.heap.size, 0, none⟩) 1 1) [3]) := row_lit w [3] (by simp)
  have HB2 : Hid (Below w.heap.size w ((w.alloc (.cells #[.int .i64 3] 3)).alloc (.cells #[.int .i64 1, .slice none 0 0, .slice (some ⟨w.heap.size, 0, none⟩) 1 1] 26))) := ((Below.refl _ w).alloc (Nat.le_refl _) _).alloc (by simp) _
  have HB3 : Hid (Below (w.alloc (.cells #[.int .i64 3] 3)).heap.size (w.alloc (.cells #[.int .i64 3] 3)) ((w.alloc (.cells #[.int .i64 3] 3)).alloc (.cells #[.int .i64 1, .slice none 0 0, .slice (some ⟨w.heap.size, 0, none⟩) 1 1] 26))) := (Below.refl _ _).alloc (Nat.le_refl _) _
  have HE := Lib.hid (leval_any A 1 (.slice none 0 0) (.slice (some ⟨w.heap.size, 0, none⟩) 1 1) (.slice none 0 0) [] [3] [] _ (hs.keep HB2.out) (PRow.nil _) (HR.out.keep HB3.out) (by simp) (by intro o ho; simp at ho; subst ho; exact ⟨by omega, by omega⟩) (RowG.nil _ _ _) (by simp) (by decide))
  rw [show evalV 1 [] [3] [] = [true] from rfl] at HE
  have HD := Lib.hid (fun W (hW : Below w.heap.size w W) => ldepth_any A 0 (.slice none 0 0) (.slice none 0 0) [] [] W (hs.keep hW) (PRow.nil _) (Row.nil _) (by simp) (by intro o ho; simp at ho) (by decide))
  rw [show depthV 0 [] [] = 0 from rfl] at HD
  unfold circV at *
  clear hs
  go_enter Tryd.func7, Tryd.ntmps7
  go_wp2_with fail
  refine HE.out.mono ?_
  rintro e w3 ⟨z, rfl, hz, hb3⟩
  have HB := Lib.hid (HB2.out.trans (hb3.mono HB2.out.size))
  obtain ⟨g, c, rfl, _, hgl, _⟩ := own_some hz (by simp)
  have y0 := hz.cells (g := g) rfl 0 (.bool true) rfl
  rw [show (⟨g, 0, none⟩ : Addr).add 0 = ⟨g, 0, none⟩ from rfl] at y0
  simp only [List.length_singleton]
  clear hz hb3
  go_wp2_with fail
  refine (HD.out _ HB.out).mono ?_
  rintro e w4 ⟨rfl, hb4⟩
  have y1 := (hb4.cell (p := ⟨g, 0, none⟩) hgl).trans y0
  have HB4 := Lib.hid (HB.out.trans (hb4.mono HB.out.size))
  clear hb4 y0
  go_wp2_with fail
  go_ret
  exact ⟨rfl, HB4.out⟩
end Go.Proofs.YtdmhjpofinnpmaaDoor
