/- Words on values of variables in memory: a pointer to a struct of one field, a slice of ints ('Asg'), and what writing one of them leaves as it was. Holds for every world; no conditions beyond those typed. -/
import Derived.Test.YtmlgpnaikdpifaaAsgP
import Derived.Test.YtmlgpnaikdpifaaRead
import Derived.Test.YtmlgpnaikdpifaaOwn
import Derived.Test.YtmlgpnaikdpifaaRef
namespace Go.Proofs.Ytmlgpnaikdpifaa
open Go.RowKit

structure Asg (w : World) (B : Nat) (v : Value) (p q : Nat) (V : List Int) : Prop where
  val : v = .pointer (some ⟨p, 0, none⟩)
  bp : B ≤ p
  bq : B ≤ q
  ne : p ≠ q
  sp : p < w.heap.size
  sq : q < w.heap.size
  vals : Vals V
  head : w.cell? ⟨p, 0, none⟩ = some (.slice (some ⟨q, 0, none⟩) V.length V.length)
  cells : ∀ i, i < V.length → w.cell? ⟨q, i, none⟩ = some (.int .i64 (V.getD i 0))
  free : ∀ i, w.frozen? ⟨q, i, none⟩ = false

theorem Asg.keepB {w w' : World} {B : Nat} {v : Value} {p q : Nat} {V : List Int} (h : Asg w B v p q V) (hs : w.heap.size ≤ w'.heap.size) (h1 : w'.heap[p]? = w.heap[p]?) (h2 : w'.heap[q]? = w.heap[q]?) : Asg w' B v p q V where
  val := h.val
  bp := h.bp
  bq := h.bq
  ne := h.ne
  sp := Nat.lt_of_lt_of_le h.sp hs
  sq := Nat.lt_of_lt_of_le h.sq hs
  vals := h.vals
  head := (World.cell?_of_block (a := ⟨p, 0, none⟩) h1).trans h.head
  cells := fun i hi => (World.cell?_of_block (a := ⟨q, i, none⟩) h2).trans (h.cells i hi)
  free := fun i => (World.frozen?_of_block (a := ⟨q, i, none⟩) h2).trans (h.free i)
theorem Asg.keep {w w' : World} {B : Nat} {v : Value} {p q : Nat} {V : List Int} (h : Asg w B v p q V) (hb : Below w.heap.size w w') : Asg w' B v p q V :=
  h.keepB hb.size (hb.block p h.sp) (hb.block q h.sq)
theorem Asg.base {w : World} {B B' : Nat} {v : Value} {p q : Nat} {V : List Int} (h : Asg w B v p q V) (hb : B' ≤ B) : Asg w B' v p q V :=
  ⟨h.val, Nat.le_trans hb h.bp, Nat.le_trans hb h.bq, h.ne, h.sp, h.sq, h.vals, h.head, h.cells, h.free⟩

/-- Of what was there, only block q may have turned. -/
def Only (q : Nat) (w w' : World) : Prop := w.grownBy w' (some q)
theorem Only.refl (q : Nat) (w : World) : Only q w w := ⟨rfl, rfl, rfl, Nat.le_refl _, fun _ _ _ => rfl⟩
theorem Only.trans {q : Nat} {a b c : World} (h : Only q a b) (k : Only q b c) : Only q a c :=
  ⟨k.os.trans h.os, k.tape.trans h.tape, k.output.trans h.output, Nat.le_trans h.size k.size, fun i hi hn => (k.block i (Nat.lt_of_lt_of_le hi h.size) hn).trans (h.block i hi hn)⟩
theorem Only.of_below {q : Nat} {w w' : World} (h : Below w.heap.size w w') : Only q w w' := ⟨h.os, h.tape, h.output, h.size, fun i hi _ => h.block i hi⟩
theorem Only.setCell (w : World) (q m : Nat) (u : Value) : Only q w (w.setCell ⟨q, m, none⟩ u) :=
  ⟨rfl, rfl, rfl, by simp [World.setCell], fun k _ hn => Below.heap_setCell _ _ _ _ (fun e => hn (by rw [e]))⟩
theorem Only.below {q B : Nat} {w0 w w' : World} (h : Only q w w') (hb : Below B w0 w) (hB : B ≤ w.heap.size) (hq : B ≤ q) : Below B w0 w' :=
  hb.grown h hB (fun k hk => by injection hk with e; omega)
theorem Only.below' {q : Nat} {w w' : World} (h : Only q w w') {B : Nat} (hB : B ≤ w.heap.size) (hq : B ≤ q) : Below B w w' := h.below (Below.refl _ _) hB hq
/-- Values elsewhere stay. -/
theorem Asg.other {w w' : World} {B : Nat} {v : Value} {p q q' : Nat} {V : List Int} (h : Asg w B v p q V) (ho : Only q' w w') (hp : p ≠ q') (hq : q ≠ q') : Asg w' B v p q V :=
  h.keepB ho.size (ho.block p h.sp (fun e => by injection e with e; exact hp e)) (ho.block q h.sq (fun e => by injection e with e; exact hq e))
theorem own_other {w w' : World} {B : Nat} {e : TypeId} {size : Nat} {v : Value} {n q' : Nat} {xs : List Value} (h : w.ownsRow B e size v n xs) (ho : Only q' w w') (hq : v.ownBlock ≠ some q') : w'.ownsRow B e size v n xs := by
  obtain ⟨h1, h2⟩ := h
  refine ⟨h1, ?_⟩
  rcases h2 with h2 | ⟨g, cap, cur, hv, hg, hh, r⟩
  · exact .inl h2
  · have hlt : g < w.heap.size := by
      rcases Nat.lt_or_ge g w.heap.size with h' | h'
      · exact h'
      · rw [Array.getElem?_eq_none h'] at hh; cases hh
    subst hv
    exact .inr ⟨g, cap, cur, rfl, hg, (ho.block g hlt (fun e => hq (by simpa [Value.ownBlock] using e))).trans hh, r⟩

theorem Asg.set {w : World} {B : Nat} {v : Value} {p q : Nat} {V : List Int} (h : Asg w B v p q V) (m : Nat) (x : Int) (_hm : m < V.length) (h0 : m = 0 → x = 0) (hx : x = 0 ∨ x = 1 ∨ x = 2) :
    Asg (w.setCell ⟨q, m, none⟩ (.int .i64 x)) B v p q (V.set m x) where
  val := h.val
  bp := h.bp
  bq := h.bq
  ne := h.ne
  sp := by simpa [World.setCell] using h.sp
  sq := by simpa [World.setCell] using h.sq
  vals := h.vals.set m x h0 hx
  head := by
    rw [World.cell?_of_block (a := ⟨p, 0, none⟩) (Below.heap_setCell w ⟨q, m, none⟩ (.int .i64 x) p h.ne), h.head]
    simp
  cells := fun i hi => by
    have hi' : i < V.length := by simpa using hi
    rw [getD_set]
    by_cases e : m = i
    · subst e
      rw [if_pos ⟨rfl, hi'⟩]
      exact World.cell?_setCell_same (w := w) (h := h.cells m hi') ..  
    · rw [if_neg (fun hh => e hh.1), ← h.cells i hi']
      exact World.cell?_setCell_other (w := w) (h := fun hh => e (by injection hh)) ..
  free := fun i => (World.frozen?_setCell _ _ _ _).trans (h.free i)
end Go.Proofs.Ytmlgpnaikdpifaa
