/- What stores into one block of four cells leave. No conditions beyond those typed. -/
import Derived.Test.YtcodmijphejfdaaDoorNormG
import Derived.Laws.ResultCell
namespace Go.Proofs.YtcodmijphejfdaaDoor
open Go.RowKit

def sets4 (w : World) (q : Nat) (v0 v1 v2 v3 : Value) : World := (((w.setCell ⟨q, 0, none⟩ v0).setCell ⟨q, 1, none⟩ v1).setCell ⟨q, 2, none⟩ v2).setCell ⟨q, 3, none⟩ v3
section
variable {w w' : World} {q B : Nat} {v0 v1 v2 v3 : Value}
theorem sets4_other : ∀ b j, b ≠ q → (sets4 w q v0 v1 v2 v3).cell? ⟨b, j, none⟩ = w.cell? ⟨b, j, none⟩ := fun b j h => by
  unfold sets4
  have hne : ∀ k, (⟨q, k, none⟩ : Addr) ≠ ⟨b, j, none⟩ := fun k e => h (by injection e with e; exact e.symm)
  rw [World.cell?_setCell_other _ _ _ _ (hne 3), World.cell?_setCell_other _ _ _ _ (hne 2), World.cell?_setCell_other _ _ _ _ (hne 1), World.cell?_setCell_other _ _ _ _ (hne 0)]
theorem sets4_same {u0 u1 u2 u3 : Value} (h0 : w.cell? ⟨q, 0, none⟩ = some u0) (h1 : w.cell? ⟨q, 1, none⟩ = some u1) (h2 : w.cell? ⟨q, 2, none⟩ = some u2) (h3 : w.cell? ⟨q, 3, none⟩ = some u3) (v0 v1 v2 v3 : Value) :
    (sets4 w q v0 v1 v2 v3).cell? ⟨q, 0, none⟩ = some v0 ∧ (sets4 w q v0 v1 v2 v3).cell? ⟨q, 1, none⟩ = some v1 ∧ (sets4 w q v0 v1 v2 v3).cell? ⟨q, 2, none⟩ = some v2 ∧ (sets4 w q v0 v1 v2 v3).cell? ⟨q, 3, none⟩ = some v3 := by
  unfold sets4
  have hne : ∀ i j : Nat, i ≠ j → (⟨q, i, none⟩ : Addr) ≠ ⟨q, j, none⟩ := fun i j h e => h (by injection e)
  have o : ∀ (W : World) (i j : Nat) (v : Value), i ≠ j → (W.setCell ⟨q, i, none⟩ v).cell? ⟨q, j, none⟩ = W.cell? ⟨q, j, none⟩ := fun W i j v h => World.cell?_setCell_other _ _ _ _ (hne i j h)
  refine ⟨?_, ?_, ?_, ?_⟩
  · rw [o _ 3 0 _ (by decide), o _ 2 0 _ (by decide), o _ 1 0 _ (by decide)]
    exact World.cell?_setCell_same _ _ _ h0
  · rw [o _ 3 1 _ (by decide), o _ 2 1 _ (by decide)]
    exact World.cell?_setCell_same _ _ _ (by rw [o _ 0 1 _ (by decide)]; exact h1)
  · rw [o _ 3 2 _ (by decide)]
    exact World.cell?_setCell_same _ _ _ (by rw [o _ 1 2 _ (by decide), o _ 0 2 _ (by decide)]; exact h2)
  · exact World.cell?_setCell_same _ _ _ (by rw [o _ 2 3 _ (by decide), o _ 1 3 _ (by decide), o _ 0 3 _ (by decide)]; exact h3)
theorem sets4_below (h : Below B w w') (hq : B ≤ q) : Below B w (sets4 w' q v0 v1 v2 v3) := (((h.setCell hq _).setCell hq _).setCell hq _).setCell hq _
theorem sets4_own {E : TypeId} {s n : Nat} {v : Value} {xs : List Value} (h : w.ownsRow B E s v n xs) (hq : q < B) : (sets4 w q v0 v1 v2 v3).ownsRow B E s v n xs :=
  ownsRow_setCell_below (ownsRow_setCell_below (ownsRow_setCell_below (ownsRow_setCell_below h (by simpa using hq) _) (by simpa using hq) _) (by simpa using hq) _) (by simpa using hq) _
theorem sets4_crow {v : Value} {xss : List (List Int)} (h : CRow w B v xss) (hq : q < B) : CRow (sets4 w q v0 v1 v2 v3) B v xss := (((h.set _ _ _ hq).set _ _ _ hq).set _ _ _ hq).set _ _ _ hq
theorem ErrR.sets {A : Nat → Addr} {ev : Value} {c : Int} {p : Bool} {k : Int} (h : ErrR A w ev c p k) {x : Bool} (hx : w.cell? ⟨q, 0, none⟩ = some (.bool x)) : ErrR A (sets4 w q v0 v1 v2 v3) ev c p k := by
  rcases h with h | ⟨i, hi, e, h | ⟨h1, b, e2, h2, h3⟩⟩
  · exact .inl h
  · exact .inr ⟨i, hi, e, .inl h⟩
  · have hb : b ≠ q := fun e => by
      subst e
      rw [hx] at h2
      cases h2
    exact .inr ⟨i, hi, e, .inr ⟨h1, b, e2, (sets4_other _ _ hb).trans h2, (sets4_other _ _ hb).trans h3⟩⟩
end
theorem norm_ret (W : World) (qb : Nat) (v0 v1 v2 v3 ev : Value) (tmps : Array Value) (ht : tmps.getD 2 undef = .pointer (some ⟨qb, 0, none⟩)) (he : tmps.getD 3 undef = ev)
    (h : W.cell? ⟨qb, 0, none⟩ = some v0 ∧ W.cell? ⟨qb, 1, none⟩ = some v1 ∧ W.cell? ⟨qb, 2, none⟩ = some v2 ∧ W.cell? ⟨qb, 3, none⟩ = some v3) :
    (results Tryd.f7 tmps).run Tryd.prog W = .ok (.tuple #[.agg #[v0, v1, v2, v3], ev]) W := by
  obtain ⟨h0, h1, h2, h3⟩ := h
  rw [results_cell_tmp Tryd.results7, ht, he]
  simp [go_sem, h0, h1, h2, h3]

/-- The game behind the last store. -/
theorem game_sets {w w5 w6 : World} {B B' q : Nat} {o vc : Value} {ms : List Blk} {vs : List Value} {xss : List (List Int)} {v0 v1 v2 v3 : Value} (hm : MgG w B o ms vs) (h5 : Below w.heap.size w w5) (hc : CRow w5 B' vc xss) (h6 : Below w5.heap.size w5 w6) (hq : q < B) (hq' : q < B')
    (ex : Bool) (vo vi : Value) (hex : ex = exG ms) (hvo : vo = vs.getD 0 nilV) (hvi : vi = vs.getD 1 nilV) : GameV (sets4 w6 q v0 v1 v2 v3) (.agg #[.bool ex, vo, vi, vc]) (exG ms) (outG ms) (inG ms) xss := by
  have hrow : ∀ j, Row (sets4 w6 q v0 v1 v2 v3) (vs.getD j nilV) (ms.getD j blk0).2 := fun j => by
    by_cases hj : j < ms.length
    · exact own_row (sets4_own (own_keep (own_keep (hm.row j hj) h5) h6) hq)
    · have e1 : vs.getD j nilV = nilV := by simp [List.getD, List.getElem?_eq_none (show vs.length ≤ j by rw [hm.len]; omega)]
      have e2 : ms.getD j blk0 = blk0 := by simp [List.getD, List.getElem?_eq_none (Nat.le_of_not_lt hj)]
      rw [e1, e2]
      exact Row.nil _
  obtain ⟨a, cap, rfl, hr⟩ := (sets4_crow (v0 := v0) (v1 := v1) (v2 := v2) (v3 := v3) (hc.keep h6) hq').rows
  subst hex; subst hvo; subst hvi
  exact ⟨_, _, a, cap, rfl, hrow 0, hrow 1, hr⟩
theorem sets4_size (w : World) (q : Nat) (v0 v1 v2 v3 : Value) : (sets4 w q v0 v1 v2 v3).heap.size = w.heap.size := by simp [sets4]
/-- The same, the struct of the call's own laid behind it. -/
theorem game_late {w w5 W0 : World} {B B' q : Nat} {o vc : Value} {ms : List Blk} {vs : List Value} {xss : List (List Int)} {v0 v1 v2 v3 : Value} (hm : MgG w B o ms vs) (h5 : Below w.heap.size w w5) (hc : CRow w5 B' vc xss) (h7 : Below (sets4 w5 q v0 v1 v2 v3).heap.size (sets4 w5 q v0 v1 v2 v3) W0) (hq : q < B) (hq' : q < B')
    (ex : Bool) (vo vi : Value) (hex : ex = exG ms) (hvo : vo = vs.getD 0 nilV) (hvi : vi = vs.getD 1 nilV) : GameV W0 (.agg #[.bool ex, vo, vi, vc]) (exG ms) (outG ms) (inG ms) xss :=
  (game_sets hm h5 hc (Below.refl _ _) hq hq' ex vo vi hex hvo hvi).keep h7
/-- The cells of the j-th block. -/
theorem game_cells {w : World} {B g n cap : Nat} {ms : List Blk} {vs : List Value} (h : MgG w B (.slice (some ⟨g, 0, none⟩) n cap) ms vs) (hn : n = ms.length) (j : Nat) (hj : j < ms.length) :
    ∃ (e : Bool) (a : Option Addr) (l c : Nat), w.cell? ⟨g, j * 2, none⟩ = some (.bool e) ∧ w.cell? ⟨g, j * 2 + 1, none⟩ = some (.slice a l c) ∧ e = (ms.getD j blk0).1 ∧ .slice a l c = vs.getD j nilV := by
  subst hn
  obtain ⟨h0, h1⟩ := flB_at ms vs j h.len hj
  obtain ⟨a, c, e⟩ := own_shape3 (h.row j hj)
  exact ⟨_, a, _, c, own_cells h.out _ _ h0, by rw [← e]; exact own_cells h.out _ _ h1, rfl, e.symm⟩
end Go.Proofs.YtcodmijphejfdaaDoor
