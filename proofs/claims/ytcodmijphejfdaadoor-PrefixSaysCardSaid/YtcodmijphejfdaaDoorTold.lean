/- Words on errors as values: an *api.At around one of the package's errors, with its place. No conditions beyond those typed. -/
import Derived.Test.YtcodmijphejfdaaDoorSents
import Derived.Test.YtcodmijphejfdaaDoorClIG
import Derived.Test.YtcodmijphejfdaaDoorGen
namespace Go.Proofs.YtcodmijphejfdaaDoor
open Go.RowKit

/-- The value is an *api.At around the i-th error, with this place. -/
def AtV (A : Nat → Addr) (w : World) (ev : Value) (k : Int) (i : Nat) : Prop := ∃ b, ev = .iface 92 (.pointer (some ⟨b, 0, none⟩)) ∧ w.cell? ⟨b, 0, none⟩ = some (.int .i64 k) ∧ w.cell? ⟨b, 1, none⟩ = some (sentV A i)
theorem AtV.keep {A : Nat → Addr} {w w' : World} {ev : Value} {k : Int} {i : Nat} (h : AtV A w ev k i) (hb : Below w.heap.size w w') : AtV A w' ev k i := by
  obtain ⟨b, e, h0, h1⟩ := h
  have hlt := World.block_lt_of_cell? w _ h0
  exact ⟨b, e, (hb.cell (p := ⟨b, 0, none⟩) hlt).trans h0, (hb.cell (p := ⟨b, 1, none⟩) hlt).trans h1⟩
def AtB (A : Nat → Addr) (B : Nat) (w : World) (ev : Value) (k : Int) (i : Nat) : Prop := ∃ b, B ≤ b ∧ ev = .iface 92 (.pointer (some ⟨b, 0, none⟩)) ∧ w.cell? ⟨b, 0, none⟩ = some (.int .i64 k) ∧ w.cell? ⟨b, 1, none⟩ = some (sentV A i)
theorem AtB.v {A : Nat → Addr} {B : Nat} {w : World} {ev : Value} {k : Int} {i : Nat} (h : AtB A B w ev k i) : AtV A w ev k i := by
  obtain ⟨b, _, h⟩ := h
  exact ⟨b, h⟩
theorem AtB.keep {A : Nat → Addr} {B : Nat} {w w' : World} {ev : Value} {k : Int} {i : Nat} (h : AtB A B w ev k i) (hb : Below w.heap.size w w') : AtB A B w' ev k i := by
  obtain ⟨b, hB, e, h0, h1⟩ := h
  have hlt := World.block_lt_of_cell? w _ h0
  exact ⟨b, hB, e, (hb.cell (p := ⟨b, 0, none⟩) hlt).trans h0, (hb.cell (p := ⟨b, 1, none⟩) hlt).trans h1⟩
theorem AtB.set {A : Nat → Addr} {B : Nat} {w : World} {ev : Value} {k : Int} {i : Nat} (h : AtB A B w ev k i) (q o : Nat) (v : Value) (hq : q < B) : AtB A B (w.setCell ⟨q, o, none⟩ v) ev k i := by
  obtain ⟨b, hB, e, h0, h1⟩ := h
  refine ⟨b, hB, e, ?_, ?_⟩
  · rw [World.cell?_setCell_other _ _ _ _ (by simp <;> omega)]; exact h0
  · rw [World.cell?_setCell_other _ _ _ _ (by simp <;> omega)]; exact h1
theorem AtB.mono {A : Nat → Addr} {B B' : Nat} {w : World} {ev : Value} {k : Int} {i : Nat} (h : AtB A B w ev k i) (hB : B' ≤ B) : AtB A B' w ev k i := by
  obtain ⟨b, hb, h⟩ := h
  exact ⟨b, by omega, h⟩
/-- The error as it is told: nothing; the i-th one; an *api.At around it. -/
def ErrR (A : Nat → Addr) (w : World) (ev : Value) (c : Int) (p : Bool) (k : Int) : Prop :=
  (c = 0 ∧ p = false ∧ k = 0 ∧ ev = .nilIface) ∨ ∃ i : Nat, i < 7 ∧ c = 101 + (i : Int) ∧ ((p = false ∧ k = 0 ∧ ev = sentV A i) ∨ (p = true ∧ AtV A w ev k i))
theorem errR_nil (A : Nat → Addr) (w : World) : ErrR A w .nilIface 0 false 0 := .inl ⟨rfl, rfl, rfl, rfl⟩
theorem errR_sent (A : Nat → Addr) (w : World) (i : Nat) (hi : i < 7) : ErrR A w (sentV A i) (101 + (i : Int)) false 0 := .inr ⟨i, hi, rfl, .inl ⟨rfl, rfl, rfl⟩⟩
theorem errR_at {A : Nat → Addr} {w : World} (i : Nat) (hi : i < 7) (b : Nat) (k : Int) (h0 : w.cell? ⟨b, 0, none⟩ = some (.int .i64 k)) (h1 : w.cell? ⟨b, 1, none⟩ = some (sentV A i)) :
    ErrR A w (.iface 92 (.pointer (some ⟨b, 0, none⟩))) (101 + (i : Int)) true k := .inr ⟨i, hi, rfl, .inr ⟨rfl, b, rfl, h0, h1⟩⟩
theorem ErrR.keep {A : Nat → Addr} {w w' : World} {ev : Value} {c : Int} {p : Bool} {k : Int} (h : ErrR A w ev c p k) (hb : Below w.heap.size w w') : ErrR A w' ev c p k := by
  rcases h with h | ⟨i, hi, e, h | ⟨h1, h2⟩⟩
  · exact .inl h
  · exact .inr ⟨i, hi, e, .inl h⟩
  · exact .inr ⟨i, hi, e, .inr ⟨h1, h2.keep hb⟩⟩
end Go.Proofs.YtcodmijphejfdaaDoor
