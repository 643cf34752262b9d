/- Stores into cells and owned rows. No conditions beyond those typed. -/
import Derived.Test.YtnhmeojcjnkebaaChg
namespace Go.Proofs.Ytnhmeojcjnkebaa
open Go.RowKit

theorem set_at {W : World} {b i : Nat} {v u : Value} (h : W.cell? ⟨b, i, none⟩ = some v) : (W.setCell ⟨b, i, none⟩ u).cell? ⟨b, i, none⟩ = some u := World.cell?_setCell_same (w := W) (h := h) ..
theorem set_off {W : World} {b i b' j : Nat} {u : Value} (h : b ≠ b' ∨ i ≠ j) : (W.setCell ⟨b, i, none⟩ u).cell? ⟨b', j, none⟩ = W.cell? ⟨b', j, none⟩ :=
  World.cell?_setCell_other (w := W) (h := fun e => by injection e with e1 e2; exact h.elim (fun h => h e1) (fun h => h e2)) ..
theorem set_fr {W : World} {x : Addr} {u : Value} {y : Addr} (h : W.frozen? y = false) : (W.setCell x u).frozen? y = false := (World.frozen?_setCell _ _ _ _).trans h

/-- A store into an owned row. -/
theorem own_setAt {w : World} {B : Nat} {e : TypeId} {size g n cap : Nat} {xs : List Value} (h : w.ownsRow B e size (.slice (some ⟨g, 0, none⟩) n cap) n xs) (i : Nat) (u : Value) (_hi : i < xs.length) : (w.setCell ⟨g, i, none⟩ u).ownsRow B e size (.slice (some ⟨g, 0, none⟩) n cap) n (xs.set i u) := by
  obtain ⟨h1, h2⟩ := h
  refine ⟨by simpa using h1, ?_⟩
  rcases h2 with ⟨e0, _⟩ | ⟨g', cap', cur, hv, hg, hh, k1, k2, k3, k4⟩
  · cases e0
  · injection hv with e1 e2 e3
    injection e1 with e1
    injection e1 with e1 _ _
    subst e1; subst e3
    refine .inr ⟨g, cap, cur.setIfInBounds i u, rfl, hg, ?_, k1, k2, by simpa using k3, ?_⟩
    · have hlt : g < w.heap.size := by
        rcases Nat.lt_or_ge g w.heap.size with h' | h'
        · exact h'
        · rw [Array.getElem?_eq_none h'] at hh; cases hh
      have h' : w.heap[g] = .cells cur e (0, 0) := by simpa [Array.getElem?_eq_getElem hlt] using hh
      show (w.heap.modify g _)[g]? = _
      rw [Array.getElem?_eq_getElem (by simpa using hlt), Array.getElem_modify_self, h']
      rfl
    · rw [← k4, Array.toList_setIfInBounds, List.take_set]
theorem own_frozen {w : World} {B : Nat} {e : TypeId} {size g n cap : Nat} {xs : List Value} (h : w.ownsRow B e size (.slice (some ⟨g, 0, none⟩) n cap) n xs) (i : Nat) : w.frozen? ⟨g, i, none⟩ = false := by
  rcases h.2 with ⟨e0, _⟩ | ⟨g', cap', cur, e0, _, hg, _⟩
  · cases e0
  · injection e0 with e0 _ _
    injection e0 with e0
    injection e0 with e0
    subst e0
    simp [World.frozen?, hg]
theorem own_cell {w : World} {B : Nat} {e : TypeId} {size g n cap : Nat} {xs : List Value} (h : w.ownsRow B e size (.slice (some ⟨g, 0, none⟩) n cap) n xs) {i : Nat} {u : Value} (hu : xs[i]? = some u) : w.cell? ⟨g, i, none⟩ = some u := by
  have := h.cells (g := g) rfl i u hu
  rwa [show (⟨g, 0, none⟩ : Addr).add i = ⟨g, i, none⟩ by unfold Addr.add; split <;> simp_all] at this
theorem own_cap {w : World} {B : Nat} {e : TypeId} {size g n cap : Nat} {xs : List Value} (h : w.ownsRow B e size (.slice (some ⟨g, 0, none⟩) n cap) n xs) : n ≤ cap ∧ cap ≤ maxLen := by
  rcases h.2 with ⟨e0, _⟩ | ⟨g', cap', cur, e0, _, _, h1, h2, _⟩
  · cases e0
  · injection e0 with _ _ e3
    subst e3
    exact ⟨h1, h2⟩
theorem own_at {w : World} {B : Nat} {e : TypeId} {size n : Nat} {v : Value} {xs : List Value} (h : w.ownsRow B e size v n xs) (hn : 0 < n) : ∃ g cap, v = .slice (some ⟨g, 0, none⟩) n cap := by
  rcases h.2 with ⟨_, e1⟩ | ⟨g, cap, cur, hv, _⟩
  · omega
  · exact ⟨g, cap, hv⟩
theorem own_lt {w : World} {B : Nat} {e : TypeId} {size g n cap : Nat} {xs : List Value} (h : w.ownsRow B e size (.slice (some ⟨g, 0, none⟩) n cap) n xs) : B ≤ g ∧ g < w.heap.size := h.lt g rfl

end Go.Proofs.Ytnhmeojcjnkebaa
