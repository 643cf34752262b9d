/- Slices of pairs of ints: as they are read ('PRow'), rows of the call's own; skolemref.Pairs' kin. Holds for every world; no conditions beyond those typed. -/
import Derived.Test.YtfkodpglgeghlaaDoorChg
import Derived.Test.YtfkodpglgeghlaaDoorRead
namespace Go.Proofs.YtfkodpglgeghlaaDoor
open Go.RowKit

def in64 (x : Int) : Prop := -9223372036854775808 ≤ x ∧ x ≤ 9223372036854775807
theorem infoA : (Tryd.prog.info? 48).map (fun i => (i.zero, i.size, i.bytes)) = some (some (.agg #[.int .i64 0, .int .i64 0]), 2, 16) := by kernel_rfl
theorem add0 (g k : Nat) : (⟨g, 0, none⟩ : Addr).add k = ⟨g, k, none⟩ := by unfold Addr.add; split <;> simp_all

/-- A gate's two cells. -/
def pcells (x : Int × Int) : List Value := [.int .i64 x.1, .int .i64 x.2]
theorem pcells_one (x : Int × Int) : ∀ y ∈ pcells x, y.oneCell' = true := by
  intro y hy
  simp [pcells] at hy
  rcases hy with rfl | rfl <;> rfl
theorem pflat_len (xs : List (Int × Int)) : (xs.flatMap pcells).length = xs.length * 2 := by
  induction xs with
  | nil => rfl
  | cons x xs ih => rw [List.flatMap_cons, List.length_append, ih]; simp [pcells]; omega
theorem pflat_get : ∀ (ws : List (Int × Int)) (i j : Nat), i < ws.length → j < 2 → (ws.flatMap pcells)[i * 2 + j]? = (pcells (ws.getD i (0, 0)))[j]?
  | [], i, j, h, _ => by simp at h
  | x :: ws, 0, j, _, hj => by
    rw [List.flatMap_cons, List.getElem?_append_left (by simp [pcells]; omega)]
    simp
  | x :: ws, i + 1, j, h, hj => by
    have ih := pflat_get ws i j (by simpa using h) hj
    rw [List.flatMap_cons, List.getElem?_append_right (by simp [pcells]; omega)]
    rw [show (i + 1) * 2 + j - (pcells x).length = i * 2 + j by simp [pcells]; omega, ih]
    simp
theorem row_shape {w : World} {B : Nat} {e : TypeId} {size : Nat} {v : Value} {n : Nat} {xs : List Value} (h : w.ownsRow B e size v n xs) : ∃ a cap, v = .slice a n cap ∧ n ≤ cap ∧ cap ≤ maxLen := by
  rcases h.2 with ⟨e0, e1⟩ | ⟨g, cap, cur, hv, hb, hg, h1, h2, _⟩
  · exact ⟨none, 0, by rw [e0, e1], by omega, by unfold maxLen; omega⟩
  · exact ⟨_, cap, hv, h1, h2⟩
def PRowAt (w : World) (a : Option Addr) (c : Nat) (ps : List (Int × Int)) : Prop :=
  ps.length ≤ c ∧ c ≤ maxLen ∧ (ps.length = 0 ∨ ∃ b off, a = some ⟨b, off, none⟩ ∧ b < w.heap.size ∧ ∀ i, i < ps.length → w.cell? ⟨b, off + i * 2, none⟩ = some (.int .i64 (ps.getD i (0, 0)).1) ∧ w.cell? ⟨b, off + i * 2 + 1, none⟩ = some (.int .i64 (ps.getD i (0, 0)).2))
/-- The value v is a slice that reads as these pairs. -/
def PRow (w : World) (v : Value) (ps : List (Int × Int)) : Prop := ∃ a c, v = .slice a ps.length c ∧ PRowAt w a c ps
theorem PRowAt.keep {w w' : World} {a : Option Addr} {c : Nat} {ps : List (Int × Int)} (h : PRowAt w a c ps) (hb : Below w.heap.size w w') : PRowAt w' a c ps := by
  obtain ⟨h1, h2, h3⟩ := h
  refine ⟨h1, h2, ?_⟩
  rcases h3 with h3 | ⟨b, off, e, hlt, hc⟩
  · exact .inl h3
  · exact .inr ⟨b, off, e, Nat.lt_of_lt_of_le hlt hb.size, fun i hi => ⟨(hb.cell (p := ⟨b, off + i * 2, none⟩) hlt).trans (hc i hi).1, (hb.cell (p := ⟨b, off + i * 2 + 1, none⟩) hlt).trans (hc i hi).2⟩⟩
theorem PRow.keep {w w' : World} {v : Value} {ps : List (Int × Int)} (h : PRow w v ps) (hb : Below w.heap.size w w') : PRow w' v ps := by
  obtain ⟨a, c, e, h⟩ := h
  exact ⟨a, c, e, h.keep hb⟩
theorem PRow.nil (w : World) : PRow w (.slice none 0 0) [] := ⟨none, 0, rfl, by simp, by unfold maxLen; omega, .inl rfl⟩
theorem own_prow {w : World} {B : Nat} {e : TypeId} {v : Value} {n : Nat} {ps : List (Int × Int)} (h : w.ownsRow B e 2 v n (ps.flatMap pcells)) : PRow w v ps := by
  have hl : ps.length = n := by have := h.1; rw [pflat_len] at this; omega
  subst hl
  rcases h.2 with ⟨e0, e1⟩ | ⟨g, cap, cur, hv, hb, hg, hn, hm, hs, ht⟩
  · exact ⟨none, 0, by rw [e0, e1], by omega, by unfold maxLen; omega, .inl e1⟩
  · subst hv
    have hget : ∀ i j u, i < ps.length → j < 2 → (pcells (ps.getD i (0, 0)))[j]? = some u → w.cell? ⟨g, i * 2 + j, none⟩ = some u := fun i j u hi hj hu => by
      have := h.cells (g := g) rfl (i * 2 + j) u (by rw [pflat_get ps i j hi hj]; exact hu)
      rwa [add0] at this
    exact ⟨_, cap, rfl, hn, hm, .inr ⟨g, 0, rfl, (h.lt g rfl).2, fun i hi => ⟨by simpa using hget i 0 _ hi (by omega) rfl, by simpa using hget i 1 _ hi (by omega) rfl⟩⟩⟩
/-- A circuit as a value. -/
def circV (n : Int) (u v : Value) : Value := .agg #[.int .i64 n, u, v]
theorem set_at {W : World} {b i : Nat} {v u : Value} (h : W.cell? ⟨b, i, none⟩ = some v) : (W.setCell ⟨b, i, none⟩ u).cell? ⟨b, i, none⟩ = some u := World.cell?_setCell_same (w := W) (h := h) ..
theorem set_off {W : World} {b i b' j : Nat} {u : Value} (h : b ≠ b' ∨ i ≠ j) : (W.setCell ⟨b, i, none⟩ u).cell? ⟨b', j, none⟩ = W.cell? ⟨b', j, none⟩ :=
  World.cell?_setCell_other (w := W) (h := fun e => by injection e with e1 e2; rcases h with h | h <;> omega) ..
end Go.Proofs.YtfkodpglgeghlaaDoor
