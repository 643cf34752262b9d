/- Words on a slice of ints of the call's own that is written in place. Holds for every world; no conditions beyond those typed. -/
import Derived.Test.YtmlgpnaikdpifaaAsgNew
namespace Go.Proofs.Ytmlgpnaikdpifaa
open Go.RowKit

structure Cel (w : World) (q : Nat) (xs : List Int) : Prop where
  sq : q < w.heap.size
  cells : ∀ i, i < xs.length → w.cell? ⟨q, i, none⟩ = some (.int .i64 (xs.getD i 0))
  free : ∀ i, w.frozen? ⟨q, i, none⟩ = false
theorem Cel.keepB {w w' : World} {q : Nat} {xs : List Int} (h : Cel w q xs) (hs : w.heap.size ≤ w'.heap.size) (h2 : w'.heap[q]? = w.heap[q]?) : Cel w' q xs where
  sq := Nat.lt_of_lt_of_le h.sq hs
  cells := fun i hi => (World.cell?_of_block (a := ⟨q, i, none⟩) h2).trans (h.cells i hi)
  free := fun i => (World.frozen?_of_block (a := ⟨q, i, none⟩) h2).trans (h.free i)
theorem Cel.keep {w w' : World} {q : Nat} {xs : List Int} (h : Cel w q xs) (hb : Below w.heap.size w w') : Cel w' q xs := h.keepB hb.size (hb.block q h.sq)
theorem Cel.other {w w' : World} {q q' : Nat} {xs : List Int} (h : Cel w q xs) (ho : Only q' w w') (hq : q ≠ q') : Cel w' q xs :=
  h.keepB ho.size (ho.block q h.sq (fun e => by injection e with e; exact hq e))
theorem Cel.set {w : World} {q : Nat} {xs : List Int} (h : Cel w q xs) (m : Nat) (x : Int) : Cel (w.setCell ⟨q, m, none⟩ (.int .i64 x)) q (xs.set m x) where
  sq := by simpa [World.setCell] using h.sq
  cells := fun i hi => by
    have hi' : i < xs.length := by simpa using hi
    rw [getD_set]
    by_cases e : m = i
    · subst e
      rw [if_pos ⟨rfl, hi'⟩]
      exact World.cell?_setCell_same (w := w) (h := h.cells m hi') ..
    · rw [if_neg (fun hh => e hh.1), ← h.cells i hi']
      exact World.cell?_setCell_other (w := w) (h := fun hh => e (by injection hh)) ..
  free := fun i => (World.frozen?_setCell _ _ _ _).trans (h.free i)
theorem Cel.of_own {w : World} {B q n : Nat} {xs : List Int} (hown : w.ownsRow B 3 1 (.slice (some ⟨q, 0, none⟩) n n) n (xs.map (Value.int .i64))) (hn : 0 < n) : Cel w q xs := by
  have hl := own_len hown
  obtain ⟨a, c, e, hc1, hc2, hr⟩ := own_row hown
  obtain ⟨b, off, ha, hb, hcell⟩ := hr.resolve_left (by omega)
  injection e with e1 e2 e3
  rw [ha] at e1
  injection e1 with e1
  injection e1 with e4 e5
  subst e4; subst e5
  refine ⟨hb, fun i hi => ?_, fun i => ?_⟩
  · have := hcell i hi
    rwa [Nat.zero_add] at this
  · rcases hown.2 with ⟨e0, _⟩ | ⟨g, cap, cur, e0, _, hg, _⟩
    · cases e0
    · injection e0 with e0 _ _
      injection e0 with e0
      injection e0 with e0
      subst e0
      simp [World.frozen?, hg]
end Go.Proofs.Ytmlgpnaikdpifaa
