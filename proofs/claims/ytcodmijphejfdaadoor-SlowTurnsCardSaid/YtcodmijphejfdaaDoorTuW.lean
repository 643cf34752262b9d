/- The two games of SlowTurns while they are made: their cells ('TX'), their rows, what may have turned ('TS'). No conditions beyond those typed. -/
import Derived.Test.YtcodmijphejfdaaDoorChg
import Derived.Test.YtcodmijphejfdaaDoorClIG
import Derived.Test.YtcodmijphejfdaaDoorNormG
namespace Go.Proofs.YtcodmijphejfdaaDoor
open Go.RowKit

theorem set_at {W : World} {b i : Nat} {v u : Value} (h : W.cell? ⟨b, i, none⟩ = some v) : (W.setCell ⟨b, i, none⟩ u).cell? ⟨b, i, none⟩ = some u := World.cell?_setCell_same (w := W) (h := h) ..
theorem set_off {W : World} {b i b' j : Nat} {u : Value} (h : b ≠ b' ∨ i ≠ j) : (W.setCell ⟨b, i, none⟩ u).cell? ⟨b', j, none⟩ = W.cell? ⟨b', j, none⟩ :=
  World.cell?_setCell_other (w := W) (h := fun e => by injection e with e1 e2; rcases h with h | h <;> omega) ..
/-- The cells of both games. -/
structure TX (W : World) (p : Nat) (ex ey : Bool) (g1 g2 gc h1 h2 hc : Value) : Prop where
  a0 : W.cell? ⟨p, 0, none⟩ = some (.bool ex)
  a1 : W.cell? ⟨p, 1, none⟩ = some g1
  a2 : W.cell? ⟨p, 2, none⟩ = some g2
  a3 : W.cell? ⟨p, 3, none⟩ = some gc
  b0 : W.cell? ⟨p + 1, 0, none⟩ = some (.bool ey)
  b1 : W.cell? ⟨p + 1, 1, none⟩ = some h1
  b2 : W.cell? ⟨p + 1, 2, none⟩ = some h2
  b3 : W.cell? ⟨p + 1, 3, none⟩ = some hc
  fa : ∀ k, W.frozen? ⟨p, k, none⟩ = false
  fb : ∀ k, W.frozen? ⟨p + 1, k, none⟩ = false
  sz : p + 2 ≤ W.heap.size
section
variable {W W' : World} {p : Nat} {ex ey : Bool} {g1 g2 gc h1 h2 hc : Value}
theorem TX.below (h : TX W p ex ey g1 g2 gc h1 h2 hc) (hb : Below (p + 2) W W') : TX W' p ex ey g1 g2 gc h1 h2 hc where
  a0 := (hb.cell (p := ⟨p, 0, none⟩) (by show p < p + 2; omega)).trans h.a0
  a1 := (hb.cell (p := ⟨p, 1, none⟩) (by show p < p + 2; omega)).trans h.a1
  a2 := (hb.cell (p := ⟨p, 2, none⟩) (by show p < p + 2; omega)).trans h.a2
  a3 := (hb.cell (p := ⟨p, 3, none⟩) (by show p < p + 2; omega)).trans h.a3
  b0 := (hb.cell (p := ⟨p + 1, 0, none⟩) (by show p + 1 < p + 2; omega)).trans h.b0
  b1 := (hb.cell (p := ⟨p + 1, 1, none⟩) (by show p + 1 < p + 2; omega)).trans h.b1
  b2 := (hb.cell (p := ⟨p + 1, 2, none⟩) (by show p + 1 < p + 2; omega)).trans h.b2
  b3 := (hb.cell (p := ⟨p + 1, 3, none⟩) (by show p + 1 < p + 2; omega)).trans h.b3
  fa := fun k => (hb.frozen (p := ⟨p, k, none⟩) (by show p < p + 2; omega)).trans (h.fa k)
  fb := fun k => (hb.frozen (p := ⟨p + 1, k, none⟩) (by show p + 1 < p + 2; omega)).trans (h.fb k)
  sz := Nat.le_trans h.sz hb.size
theorem TX.setA1 (h : TX W p ex ey g1 g2 gc h1 h2 hc) (u : Value) : TX (W.setCell ⟨p, 1, none⟩ u) p ex ey u g2 gc h1 h2 hc :=
  ⟨(set_off (.inr (by decide))).trans h.a0, set_at h.a1, (set_off (.inr (by decide))).trans h.a2, (set_off (.inr (by decide))).trans h.a3, (set_off (.inl (by omega))).trans h.b0, (set_off (.inl (by omega))).trans h.b1, (set_off (.inl (by omega))).trans h.b2, (set_off (.inl (by omega))).trans h.b3, fun k => (World.frozen?_setCell _ _ _ _).trans (h.fa k), fun k => (World.frozen?_setCell _ _ _ _).trans (h.fb k), by have := h.sz; simpa using this⟩
theorem TX.setA2 (h : TX W p ex ey g1 g2 gc h1 h2 hc) (u : Value) : TX (W.setCell ⟨p, 2, none⟩ u) p ex ey g1 u gc h1 h2 hc :=
  ⟨(set_off (.inr (by decide))).trans h.a0, (set_off (.inr (by decide))).trans h.a1, set_at h.a2, (set_off (.inr (by decide))).trans h.a3, (set_off (.inl (by omega))).trans h.b0, (set_off (.inl (by omega))).trans h.b1, (set_off (.inl (by omega))).trans h.b2, (set_off (.inl (by omega))).trans h.b3, fun k => (World.frozen?_setCell _ _ _ _).trans (h.fa k), fun k => (World.frozen?_setCell _ _ _ _).trans (h.fb k), by have := h.sz; simpa using this⟩
theorem TX.setB1 (h : TX W p ex ey g1 g2 gc h1 h2 hc) (u : Value) : TX (W.setCell ⟨p + 1, 1, none⟩ u) p ex ey g1 g2 gc u h2 hc :=
  ⟨(set_off (.inl (by omega))).trans h.a0, (set_off (.inl (by omega))).trans h.a1, (set_off (.inl (by omega))).trans h.a2, (set_off (.inl (by omega))).trans h.a3, (set_off (.inr (by decide))).trans h.b0, set_at h.b1, (set_off (.inr (by decide))).trans h.b2, (set_off (.inr (by decide))).trans h.b3, fun k => (World.frozen?_setCell _ _ _ _).trans (h.fa k), fun k => (World.frozen?_setCell _ _ _ _).trans (h.fb k), by have := h.sz; simpa using this⟩
theorem TX.setB2 (h : TX W p ex ey g1 g2 gc h1 h2 hc) (u : Value) : TX (W.setCell ⟨p + 1, 2, none⟩ u) p ex ey g1 g2 gc h1 u hc :=
  ⟨(set_off (.inl (by omega))).trans h.a0, (set_off (.inl (by omega))).trans h.a1, (set_off (.inl (by omega))).trans h.a2, (set_off (.inl (by omega))).trans h.a3, (set_off (.inr (by decide))).trans h.b0, (set_off (.inr (by decide))).trans h.b1, set_at h.b2, (set_off (.inr (by decide))).trans h.b3, fun k => (World.frozen?_setCell _ _ _ _).trans (h.fa k), fun k => (World.frozen?_setCell _ _ _ _).trans (h.fb k), by have := h.sz; simpa using this⟩
theorem TX.setB3 (h : TX W p ex ey g1 g2 gc h1 h2 hc) (u : Value) : TX (W.setCell ⟨p + 1, 3, none⟩ u) p ex ey g1 g2 gc h1 h2 u :=
  ⟨(set_off (.inl (by omega))).trans h.a0, (set_off (.inl (by omega))).trans h.a1, (set_off (.inl (by omega))).trans h.a2, (set_off (.inl (by omega))).trans h.a3, (set_off (.inr (by decide))).trans h.b0, (set_off (.inr (by decide))).trans h.b1, (set_off (.inr (by decide))).trans h.b2, set_at h.b3, fun k => (World.frozen?_setCell _ _ _ _).trans (h.fa k), fun k => (World.frozen?_setCell _ _ _ _).trans (h.fb k), by have := h.sz; simpa using this⟩
theorem TX.start (w : World) (ex ey : Bool) (g1 g2 gc h1 h2 hc : Value) (T : TypeId) : TX ((w.alloc (.cells #[.bool ex, g1, g2, gc] T)).alloc (.cells #[.bool ey, h1, h2, hc] T)) w.heap.size ex ey g1 g2 gc h1 h2 hc := by
  have e1 : Below (w.alloc (.cells #[.bool ex, g1, g2, gc] T)).heap.size (w.alloc (.cells #[.bool ex, g1, g2, gc] T)) ((w.alloc (.cells #[.bool ex, g1, g2, gc] T)).alloc (.cells #[.bool ey, h1, h2, hc] T)) := (Below.refl _ _).alloc (Nat.le_refl _) _
  obtain ⟨⟨x0, x1, x2, x3⟩, x4⟩ := cells4 w _ _ _ _ _ T e1
  obtain ⟨⟨y0, y1, y2, y3⟩, y4⟩ := cells4 (w.alloc (.cells #[.bool ex, g1, g2, gc] T)) _ _ _ _ _ T (Below.refl ((w.alloc (.cells #[.bool ex, g1, g2, gc] T)).alloc (.cells #[.bool ey, h1, h2, hc] T)).heap.size _)
  rw [show (w.alloc (.cells #[.bool ex, g1, g2, gc] T)).heap.size = w.heap.size + 1 by simp] at y0 y1 y2 y3 y4
  exact ⟨x0, x1, x2, x3, y0, y1, y2, y3, x4, y4, by simp⟩
end
/-- The third loop: cells, rows, and what may have turned since W3. -/
structure TS (W3 wr : World) (p : Nat) (ex ey : Bool) (gc hc g1 : Value) (l1 : List Int) (h1 : Value) (m1 : List Int) (g2 : Value) (l2 : List Int) (h2 : Value) (m2 : List Int) : Prop where
  tx : TX wr p ex ey g1 g2 gc h1 h2 hc
  r4 : R4 wr W3.heap.size g1 l1 h1 m1 g2 l2 h2 m2
  chg : Chg [p, p + 1] W3 wr
  sz : p + 2 ≤ W3.heap.size
section
variable {W3 wr w' : World} {p : Nat} {ex ey : Bool} {gc hc g1 h1 g2 h2 u : Value} {l1 m1 l2 m2 : List Int} {y : Int}
theorem chg_app {B : Nat} {v v' : Value} {e : TypeId} {s n : Nat} {xs : List Value} {S : List Nat} (hB : B = W3.heap.size) (hc : Chg S W3 wr) (ho : wr.ownsRow B e s v n xs) (hap : App B wr w' v v') : Chg S W3 w' :=
  hc.trans (Chg.app (S := rowB v) hap fun _ hi => mem_rowB.2 hi) fun i hi => .inr (hB ▸ (ho.lt i (mem_rowB.1 hi)).1)
theorem TS.g (h : TS W3 wr p ex ey gc hc g1 l1 h1 m1 g2 l2 h2 m2) (hown : w'.ownsRow W3.heap.size 3 1 u (l1.length + 1) ((l1 ++ [y]).map (Value.int .i64))) (hap : App W3.heap.size wr w' g1 u) : TX w' p ex ey g1 g2 gc h1 h2 hc ∧ TS W3 (w'.setCell ⟨p, 1, none⟩ u) p ex ey gc hc u (l1 ++ [y]) h1 m1 g2 l2 h2 m2 :=
  ⟨h.tx.below (hap.below.mono h.sz), (h.tx.below (hap.below.mono h.sz)).setA1 u, (h.r4.app hown hap).set p 1 u (by have := h.sz; omega), (chg_app rfl h.chg h.r4.o1 hap).setCell (.inl (by simp)) u, h.sz⟩
theorem TS.h (h : TS W3 wr p ex ey gc hc g1 l1 h1 m1 g2 l2 h2 m2) (hown : w'.ownsRow W3.heap.size 3 1 u (m1.length + 1) ((m1 ++ [y]).map (Value.int .i64))) (hap : App W3.heap.size wr w' h1 u) : TX w' p ex ey g1 g2 gc h1 h2 hc ∧ TS W3 (w'.setCell ⟨p + 1, 1, none⟩ u) p ex ey gc hc g1 l1 u (m1 ++ [y]) g2 l2 h2 m2 :=
  ⟨h.tx.below (hap.below.mono h.sz), (h.tx.below (hap.below.mono h.sz)).setB1 u, ((h.r4.rot.app hown hap).rot.rot.rot).set (p + 1) 1 u (by have := h.sz; omega), (chg_app rfl h.chg h.r4.o2 hap).setCell (.inl (by simp)) u, h.sz⟩
theorem TS.i (h : TS W3 wr p ex ey gc hc g1 l1 h1 m1 g2 l2 h2 m2) (hown : w'.ownsRow W3.heap.size 3 1 u (l2.length + 1) ((l2 ++ [y]).map (Value.int .i64))) (hap : App W3.heap.size wr w' g2 u) : TX w' p ex ey g1 g2 gc h1 h2 hc ∧ TS W3 (w'.setCell ⟨p, 2, none⟩ u) p ex ey gc hc g1 l1 h1 m1 u (l2 ++ [y]) h2 m2 :=
  ⟨h.tx.below (hap.below.mono h.sz), (h.tx.below (hap.below.mono h.sz)).setA2 u, ((h.r4.rot.rot.app hown hap).rot.rot).set p 2 u (by have := h.sz; omega), (chg_app rfl h.chg h.r4.o3 hap).setCell (.inl (by simp)) u, h.sz⟩
theorem TS.j (h : TS W3 wr p ex ey gc hc g1 l1 h1 m1 g2 l2 h2 m2) (hown : w'.ownsRow W3.heap.size 3 1 u (m2.length + 1) ((m2 ++ [y]).map (Value.int .i64))) (hap : App W3.heap.size wr w' h2 u) : TX w' p ex ey g1 g2 gc h1 h2 hc ∧ TS W3 (w'.setCell ⟨p + 1, 2, none⟩ u) p ex ey gc hc g1 l1 h1 m1 g2 l2 u (m2 ++ [y]) :=
  ⟨h.tx.below (hap.below.mono h.sz), (h.tx.below (hap.below.mono h.sz)).setB2 u, ((h.r4.rot.rot.rot.app hown hap).rot).set (p + 1) 2 u (by have := h.sz; omega), (chg_app rfl h.chg h.r4.o4 hap).setCell (.inl (by simp)) u, h.sz⟩
end
theorem sl_cells (W : World) (v : Value) : ∀ j u, [v][j]? = some u → (W.alloc (.cells #[v] 30)).cell? ((⟨W.heap.size, 0, none⟩ : Addr).add j) = some u := by
  intro j u hj
  match j, hj with
  | 0, hj => simp at hj; subst hj; simp [Addr.add]
theorem sl_one (a : Option Addr) (m c : Nat) : ∀ u ∈ [Value.slice a m c], u.oneCell' = true := by
  intro u hu
  simp at hu
  subst hu
  rfl
/-- The second loop's push: one clause of one literal. -/
theorem ClG.one {w w1 w' : World} {B : Nat} {o o' : Value} {vs : List Value} {done : List (List Int)} {y : Int} (h : ClG w B o (.slice none 0 0) vs done []) (hb : Below w.heap.size (w.alloc (.cells #[.int .i64 y] 3)) w1) (hap : App B w1 w' o o') (ho : w'.ownsRow B 30 1 o' (done.length + 1) (vs ++ [.slice (some ⟨w.heap.size, 0, none⟩) 1 1]))
    (hl : w1.ownsRow B 3 1 (.slice (some ⟨w.heap.size, 0, none⟩) 1 1) 1 [.int .i64 y]) : ClG w' B o' (.slice none 0 0) (vs ++ [.slice (some ⟨w.heap.size, 0, none⟩) 1 1]) (done ++ [[y]]) [] := by
  have hb0 : Below w.heap.size w w1 := ((Below.refl _ w).alloc (Nat.le_refl _) _).trans hb
  have h1 := h.keep hb0
  have h2 : ClG w1 B o (.slice (some ⟨w.heap.size, 0, none⟩) 1 1) vs done [y] :=
    ⟨h1.len, h1.out, fun j hj => by
      obtain ⟨v, e1, e2, e3⟩ := h.each j hj
      exact ⟨v, e1, own_keep e2 hb0, fun g hg => ⟨Nat.lt_of_lt_of_le (e3 g hg).1 hb0.size, (e3 g hg).2.1, fun e => by
        have := (e3 g hg).1
        simp [Value.ownBlock] at e
        omega⟩⟩, hl, fun g hg e => by
        have := own_ltG h.out hg
        simp [Value.ownBlock] at e
        omega⟩
  exact h2.push hap ho
end Go.Proofs.YtcodmijphejfdaaDoor
