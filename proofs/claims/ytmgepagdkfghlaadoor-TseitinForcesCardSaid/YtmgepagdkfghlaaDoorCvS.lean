/- A circuit's variable ('CV'), one whose outputs are a row of the call's own ('CS'); a variable of clauses ('NV'); a right circuit with other outputs. No conditions beyond those typed. -/
import Derived.Test.YtmgepagdkfghlaaDoorTsH
import Derived.Test.YtmgepagdkfghlaaDoorGsV
import Derived.Test.YtmgepagdkfghlaaDoorOfA
namespace Go.Proofs.YtmgepagdkfghlaaDoor
open Go.RowKit

/-- A variable of type api.Circuit at block b. -/
structure CV (W : World) (b : Nat) (n : Int) (u o : Value) : Prop where
  c0 : W.cell? ⟨b, 0, none⟩ = some (.int .i64 n)
  c1 : W.cell? ⟨b, 1, none⟩ = some u
  c2 : W.cell? ⟨b, 2, none⟩ = some o
  fr : ∀ k, W.frozen? ⟨b, k, none⟩ = false
  lt : b < W.heap.size
theorem CV.keep {W W' : World} {b : Nat} {n : Int} {u o : Value} (h : CV W b n u o) (hb : Below W.heap.size W W') : CV W' b n u o where
  c0 := (hb.cell (p := ⟨b, 0, none⟩) h.lt).trans h.c0
  c1 := (hb.cell (p := ⟨b, 1, none⟩) h.lt).trans h.c1
  c2 := (hb.cell (p := ⟨b, 2, none⟩) h.lt).trans h.c2
  fr := fun k => (hb.frozen (p := ⟨b, k, none⟩) h.lt).trans (h.fr k)
  lt := Nat.lt_of_lt_of_le h.lt hb.size
theorem CV.set1 {W : World} {b : Nat} {n : Int} {u o : Value} (h : CV W b n u o) (u' : Value) : CV (W.setCell ⟨b, 1, none⟩ u') b n u' o where
  c0 := (set_off (.inr (by decide))).trans h.c0
  c1 := set_at h.c1
  c2 := (set_off (.inr (by decide))).trans h.c2
  fr := fun k => (World.frozen?_setCell _ _ _ _).trans (h.fr k)
  lt := by have := h.lt; simpa using this
theorem CV.set2 {W : World} {b : Nat} {n : Int} {u o : Value} (h : CV W b n u o) (o' : Value) : CV (W.setCell ⟨b, 2, none⟩ o') b n u o' where
  c0 := (set_off (.inr (by decide))).trans h.c0
  c1 := (set_off (.inr (by decide))).trans h.c1
  c2 := set_at h.c2
  fr := fun k => (World.frozen?_setCell _ _ _ _).trans (h.fr k)
  lt := by have := h.lt; simpa using this
theorem CV.new (w : World) (n : Int) (u o : Value) (T : TypeId) : CV (w.alloc (.cells #[.int .i64 n, u, o] T)) w.heap.size n u o where
  c0 := by rw [cell_of_row _ _ 0 _ T (0, 0) (heap_alloc_new _ _)]; rfl
  c1 := by rw [cell_of_row _ _ 1 _ T (0, 0) (heap_alloc_new _ _)]; rfl
  c2 := by rw [cell_of_row _ _ 2 _ T (0, 0) (heap_alloc_new _ _)]; rfl
  fr := fun k => by simp only [World.frozen?, heap_alloc_new]; simp
  lt := by simp
/-- A circuit's variable at b whose outputs are a row of the call's own. -/
structure CS (w3 : World) (b : Nat) (n : Int) (u o : Value) (os : List Int) (W : World) : Prop where
  cv : CV W b n u o
  bel : Below b w3 W
  own : W.ownsRow (b + 1) 3 1 o os.length (os.map (Value.int .i64))
theorem CS.keep {w3 : World} {b : Nat} {n : Int} {u o : Value} {os : List Int} {W W' : World} (h : CS w3 b n u o os W) (hb : Below W.heap.size W W') : CS w3 b n u o os W' :=
  ⟨h.cv.keep hb, h.bel.trans (hb.mono (Nat.le_of_lt h.cv.lt)), own_keep h.own hb⟩
theorem cs_outs {w3 : World} {b : Nat} {n : Int} {u o : Value} {W : World} (hc : CV W b n u o) (hb : Below b w3 W) (xs : List Int) (k : Nat) (hk : xs.length = k) (hx : k ≤ 1000000) : CS w3 b n u (.slice (some ⟨W.heap.size, 0, none⟩) k k) xs ((W.setCell ⟨b, 2, none⟩ (.slice (some ⟨W.heap.size, 0, none⟩) k k)).alloc (.cells (xs.map (Value.int .i64)).toArray 3)) := by
  subst hk
  have hz : (W.setCell ⟨b, 2, none⟩ (.slice (some ⟨W.heap.size, 0, none⟩) xs.length xs.length)).heap.size = W.heap.size := by simp
  have h0 := hc.set2 (.slice (some ⟨W.heap.size, 0, none⟩) xs.length xs.length)
  have h2 := own_lit (W.setCell ⟨b, 2, none⟩ (.slice (some ⟨W.heap.size, 0, none⟩) xs.length xs.length)) (b + 1) 3 (xs.map (Value.int .i64)) h0.lt (by rw [List.length_map]; exact hx)
  rw [List.length_map, hz] at h2
  exact ⟨h0.keep ((Below.refl _ _).alloc (Nat.le_refl _) _), (hb.setCell (Nat.le_refl _) _).alloc (Nat.le_of_lt h0.lt) _, h2⟩
theorem check_outs {N : Nat} {ps : List (Int × Int)} {os os' : List Int} (hc : checkC (N : Int) ps os = 0) (h : ∀ o ∈ os', okO (N + ps.length) o = true) : checkC (N : Int) ps os' = 0 := by
  obtain ⟨h1, h2, _⟩ := check_zero8 hc
  exact mk_right h1 h2 h
theorem check_in64 {N : Nat} {ps : List (Int × Int)} {os : List Int} (hc : checkC (N : Int) ps os = 0) : ∀ o ∈ os, in64 o := by
  obtain ⟨h1, _, h3⟩ := check_zero8 hc
  intro o ho
  obtain ⟨j, hj, rfl⟩ := List.getElem_of_mem ho
  have := (okO_iff _ _).1 (h3 j hj)
  simp only [List.getD, List.getElem?_eq_getElem hj, Option.getD_some] at this
  unfold in64
  omega

/-- A variable of clauses at block b. -/
structure NV (W : World) (b : Nat) (m : Int) (o : Value) : Prop where
  c0 : W.cell? ⟨b, 0, none⟩ = some (.int .i64 m)
  c1 : W.cell? ⟨b, 1, none⟩ = some o
  lt : b < W.heap.size
theorem NV.keep {W W' : World} {b : Nat} {m : Int} {o : Value} (h : NV W b m o) (hb : Below W.heap.size W W') : NV W' b m o where
  c0 := (hb.cell (p := ⟨b, 0, none⟩) h.lt).trans h.c0
  c1 := (hb.cell (p := ⟨b, 1, none⟩) h.lt).trans h.c1
  lt := Nat.lt_of_lt_of_le h.lt hb.size
theorem NV.new (w : World) (m : Int) (o : Value) (T : TypeId) : NV (w.alloc (.cells #[.int .i64 m, o] T)) w.heap.size m o where
  c0 := by rw [cell_of_row _ _ 0 _ T (0, 0) (heap_alloc_new _ _)]; rfl
  c1 := by rw [cell_of_row _ _ 1 _ T (0, 0) (heap_alloc_new _ _)]; rfl
  lt := by simp
theorem NV.off {W : World} {b : Nat} {m : Int} {o : Value} (h : NV W b m o) {b' i : Nat} (hb : b' ≠ b) (v : Value) : NV (W.setCell ⟨b', i, none⟩ v) b m o where
  c0 := (set_off (.inl hb)).trans h.c0
  c1 := (set_off (.inl hb)).trans h.c1
  lt := by have := h.lt; simpa using this
theorem CRow.rows_at {w : World} {B : Nat} {a : Option Addr} {L c : Nat} {xss : List (List Int)} (h : CRow w B (.slice a L c) xss) : L = xss.length ∧ RowsAt w a c xss := by
  obtain ⟨a', c', e, hr⟩ := h.rows
  injection e with e1 e2 e3
  subst e1; subst e3
  exact ⟨e2, hr⟩
theorem InC.inW {m : Int} {c : List Int} (h : InC m c) (hm : m ≤ 1000000) : InW c := fun x hx => by have := h x hx; omega
end Go.Proofs.YtmgepagdkfghlaaDoor
