/- The memory of Encode's call: the circuit's box, the result's cells ('ES'); the clauses' variable ('EV'). A load of a row of clauses as a step. No conditions beyond those typed. -/
import Derived.Test.YtmgepagdkfghlaaDoorTsW
import Derived.Test.YtmgepagdkfghlaaDoorGrK
import Derived.Test.YtmgepagdkfghlaaDoorMkC
import Derived.Deep.RegionHeld3
namespace Go.Proofs.YtmgepagdkfghlaaDoor
open Go.RowKit

/-- The circuit's cells at r, the result's at r + 1. -/
structure ES (W : World) (r : Nat) (n : Int) (u v : Value) : Prop where
  c0 : W.cell? ⟨r, 0, none⟩ = some (.int .i64 n)
  c1 : W.cell? ⟨r, 1, none⟩ = some u
  c2 : W.cell? ⟨r, 2, none⟩ = some v
  r0 : W.cell? ⟨r + 1, 0, none⟩ = some (.int .i64 0)
  r1 : W.cell? ⟨r + 1, 1, none⟩ = some (.slice none 0 0)
  rf : ∀ k, W.frozen? ⟨r + 1, k, none⟩ = false
  sz : r + 2 ≤ W.heap.size
theorem ES.below {W W' : World} {r : Nat} {n : Int} {u v : Value} (h : ES W r n u v) (hb : Below (r + 2) W W') : ES W' r n u v where
  c0 := (hb.cell (p := ⟨r, 0, none⟩) (by show r < r + 2; omega)).trans h.c0
  c1 := (hb.cell (p := ⟨r, 1, none⟩) (by show r < r + 2; omega)).trans h.c1
  c2 := (hb.cell (p := ⟨r, 2, none⟩) (by show r < r + 2; omega)).trans h.c2
  r0 := (hb.cell (p := ⟨r + 1, 0, none⟩) (Nat.lt_succ_self _)).trans h.r0
  r1 := (hb.cell (p := ⟨r + 1, 1, none⟩) (Nat.lt_succ_self _)).trans h.r1
  rf := fun k => (hb.frozen (p := ⟨r + 1, k, none⟩) (Nat.lt_succ_self _)).trans (h.rf k)
  sz := Nat.le_trans h.sz hb.size
theorem ES.start (w : World) (n : Int) (u v : Value) (T T2 : TypeId) : ES ((w.alloc (.cells #[.int .i64 n, u, v] T)).alloc (.cells #[.int .i64 0, .slice none 0 0] T2)) w.heap.size n u v := by
  have hz : (w.alloc (.cells #[.int .i64 n, u, v] T)).heap.size = w.heap.size + 1 := by simp
  have hn := heap_alloc_new (w.alloc (.cells #[.int .i64 n, u, v] T)) (.cells #[.int .i64 0, .slice none 0 0] T2)
  rw [hz] at hn
  have ho := heap_alloc_new w (.cells #[.int .i64 n, u, v] T)
  have hb : Below (w.heap.size + 1) (w.alloc (.cells #[.int .i64 n, u, v] T)) ((w.alloc (.cells #[.int .i64 n, u, v] T)).alloc (.cells #[.int .i64 0, .slice none 0 0] T2)) := (Below.refl _ _).alloc (by simp) _
  refine ⟨?_, ?_, ?_, ?_, ?_, fun k => ?_, by simp⟩
  · rw [hb.cell (p := ⟨w.heap.size, 0, none⟩) (Nat.lt_succ_self _), cell_of_row _ _ 0 _ T (0, 0) ho]; rfl
  · rw [hb.cell (p := ⟨w.heap.size, 1, none⟩) (Nat.lt_succ_self _), cell_of_row _ _ 1 _ T (0, 0) ho]; rfl
  · rw [hb.cell (p := ⟨w.heap.size, 2, none⟩) (Nat.lt_succ_self _), cell_of_row _ _ 2 _ T (0, 0) ho]; rfl
  · rw [cell_of_row _ _ 0 _ T2 (0, 0) hn]; rfl
  · rw [cell_of_row _ _ 1 _ T2 (0, 0) hn]; rfl
  · simp only [World.frozen?, hn]; simp
theorem es_bel (w : World) (o o2 : Obj) : Below w.heap.size w ((w.alloc o).alloc o2) := ((Below.refl _ w).alloc (Nat.le_refl _) _).alloc (by simp) _

/-- The clauses' variable at block q, which is new since w2. -/
structure EV (w2 : World) (q : Nat) (m : Int) (o : Value) (xss : List (List Int)) (W : World) : Prop where
  c0 : W.cell? ⟨q, 0, none⟩ = some (.int .i64 m)
  c1 : W.cell? ⟨q, 1, none⟩ = some o
  fr : ∀ k, W.frozen? ⟨q, k, none⟩ = false
  lt : q < W.heap.size
  row : CRow W (q + 1) o xss
  bel : Below q w2 W
theorem EV.keep {w2 W W' : World} {q : Nat} {m : Int} {o : Value} {xss : List (List Int)} (h : EV w2 q m o xss W) (hb : Below W.heap.size W W') : EV w2 q m o xss W' where
  c0 := (hb.cell (p := ⟨q, 0, none⟩) h.lt).trans h.c0
  c1 := (hb.cell (p := ⟨q, 1, none⟩) h.lt).trans h.c1
  fr := fun k => (hb.frozen (p := ⟨q, k, none⟩) h.lt).trans (h.fr k)
  lt := Nat.lt_of_lt_of_le h.lt hb.size
  row := h.row.keep hb
  bel := h.bel.trans (hb.mono (Nat.le_of_lt h.lt))
theorem EV.start (w2 : World) (m : Int) (T : TypeId) : EV w2 w2.heap.size m (.slice none 0 0) [] (w2.alloc (.cells #[.int .i64 m, .slice none 0 0] T)) where
  c0 := by rw [cell_of_row _ _ 0 _ T (0, 0) (heap_alloc_new _ _)]; rfl
  c1 := by rw [cell_of_row _ _ 1 _ T (0, 0) (heap_alloc_new _ _)]; rfl
  fr := fun k => by simp only [World.frozen?, heap_alloc_new]; simp
  lt := by simp
  row := CRow.nil _ _
  bel := (Below.refl _ _).alloc (Nat.le_refl _) _
/-- Behind a call that made new clauses: what is there, and what the store leaves. -/
theorem EV.with {w2 W W1 w3 : World} {q : Nat} {m : Int} {o o' : Value} {xss yss : List (List Int)} (h : EV w2 q m o xss W) (hb : Below W.heap.size W W1) (hr : CRow w3 (q + 1) o' yss) (hb3 : Below (q + 1) W1 w3) :
    (w3.cell? ⟨q, 0, none⟩ = some (.int .i64 m) ∧ w3.cell? ⟨q, 1, none⟩ = some o ∧ (∀ k, w3.frozen? ⟨q, k, none⟩ = false) ∧ q < w3.heap.size) ∧ EV w2 q m o' yss (w3.setCell ⟨q, 1, none⟩ o') := by
  have h1 := h.keep hb
  have c0 := (hb3.cell (p := ⟨q, 0, none⟩) (Nat.lt_succ_self _)).trans h1.c0
  have c1 := (hb3.cell (p := ⟨q, 1, none⟩) (Nat.lt_succ_self _)).trans h1.c1
  have fr := fun k => (hb3.frozen (p := ⟨q, k, none⟩) (Nat.lt_succ_self _)).trans (h1.fr k)
  have lt := Nat.lt_of_lt_of_le h1.lt hb3.size
  exact ⟨⟨c0, c1, fr, lt⟩,
    { c0 := (set_off (.inr (by decide))).trans c0
      c1 := set_at c1
      fr := fun k => (World.frozen?_setCell _ _ _ _).trans (fr k)
      lt := by simpa using lt
      row := hr.set q 1 o' (Nat.lt_succ_self _)
      bel := (h1.bel.trans (hb3.mono (Nat.le_succ _))).setCell (Nat.le_refl _) _ }⟩

theorem CRow.shape {w : World} {B : Nat} {v : Value} {xss : List (List Int)} (h : CRow w B v xss) : ∃ a L c, v = .slice a L c := by
  obtain ⟨a, c, e, _⟩ := h.rows
  exact ⟨a, _, c, e⟩
/-- The load of a row of clauses that turns within its region. -/
theorem step_ldC {ops : Array Oper} {o : Oper} {a : Act} {K : Act → World → Prop} {Q : Exit → Act → World → Prop} {EE : Prop} (t : Nat) (ld : Op) (hld : ld = Op.load 27 (Operand.tmp t)) (hgd : o.guard = none) (ho : o.op = ld) (w : World) (b i : Nat) (v : Value) (hx : a.eval (Operand.tmp t) = .pointer (some ⟨b, i, none⟩)) (hc : w.cell? ⟨b, i, none⟩ = some v) (h : K (a.put o.dst v) w) :
    if Region.wanted o (yielded ops a.tmps) = true then Oper.wp Tryd.prog o a w K Q else EE := by
  rw [if_pos (by simp [Region.wanted, hgd])]
  have hrun : (loadVar 27 ⟨b, i, none⟩).run Tryd.prog w = .ok v w := by
    simp [loadVar, isAgg, run_underlying Tryd.underlying27, hc, go_sem]
  have ho' := ho.trans hld
  unfold Oper.wp execOp
  simp only [ho', hx, Instr.loadAt, Instr.sureAddr, Sem.run_bind, Sem.run_pure, Result.andThen_ok, hrun]
  exact h
theorem row_lit13 (w : World) (xs : List Int) (hl : xs.length ≤ 1000000) : Row (w.alloc (.cells (xs.map (Value.int .i64)).toArray 3)) (.slice (some ⟨w.heap.size, 0, none⟩) xs.length xs.length) xs := by
  have := own_lit w w.heap.size 3 (xs.map (Value.int .i64)) (Nat.le_refl _) (by rw [List.length_map]; exact hl)
  rw [List.length_map] at this
  exact own_row this
/-- How many variables and which clauses Encode answers, and its error. -/
def codeE (n : Int) (ps : List (Int × Int)) (os fs : List Int) : Int := if checkC n ps os = 0 then (if fs.all (okO (n.toNat + ps.length)) = true then 0 else 104) else checkC n ps os
def EncPost (A : Nat → Addr) (w : World) (c m : Int) (xss : List (List Int)) (e : Ending) (w' : World) : Prop :=
  (∃ o, e = .returned (.tuple #[.agg #[.int .i64 m, o], errC A c]) ∧ CRow w' w.heap.size o xss) ∧ Below w.heap.size w w'
end Go.Proofs.YtmgepagdkfghlaaDoor
