/- What writing into one block leaves as it was. Holds for every world; no conditions beyond those typed. -/
import Derived.Test.YtcodmijphejfdaaDoorBase
namespace Go.Proofs.YtcodmijphejfdaaDoor
open Go.RowKit

/-- Of what was there, only block q may have turned. -/
def Only (q : Nat) (w w' : World) : Prop := w.grownBy w' (some q)
theorem Only.refl (q : Nat) (w : World) : Only q w w := ⟨rfl, rfl, rfl, Nat.le_refl _, fun _ _ _ => rfl⟩
theorem Only.trans {q : Nat} {a b c : World} (h : Only q a b) (k : Only q b c) : Only q a c :=
  ⟨k.os.trans h.os, k.tape.trans h.tape, k.output.trans h.output, Nat.le_trans h.size k.size, fun i hi hn => (k.block i (Nat.lt_of_lt_of_le hi h.size) hn).trans (h.block i hi hn)⟩
theorem Only.of_below {q : Nat} {w w' : World} (h : Below w.heap.size w w') : Only q w w' := ⟨h.os, h.tape, h.output, h.size, fun i hi _ => h.block i hi⟩
theorem Only.setCell (w : World) (q m : Nat) (u : Value) : Only q w (w.setCell ⟨q, m, none⟩ u) :=
  ⟨rfl, rfl, rfl, by simp [World.setCell], fun k _ hn => Below.heap_setCell _ _ _ _ (fun e => hn (by rw [e]))⟩
theorem Only.below {q B : Nat} {w0 w w' : World} (h : Only q w w') (hb : Below B w0 w) (hB : B ≤ w.heap.size) (hq : B ≤ q) : Below B w0 w' :=
  hb.grown h hB (fun k hk => by injection hk with e; omega)
theorem Only.below' {q : Nat} {w w' : World} (h : Only q w w') {B : Nat} (hB : B ≤ w.heap.size) (hq : B ≤ q) : Below B w w' := h.below (Below.refl _ _) hB hq
theorem own_other {w w' : World} {B : Nat} {e : TypeId} {size : Nat} {v : Value} {n q' : Nat} {xs : List Value} (h : w.ownsRow B e size v n xs) (ho : Only q' w w') (hq : v.ownBlock ≠ some q') : w'.ownsRow B e size v n xs := by
  obtain ⟨h1, h2⟩ := h
  refine ⟨h1, ?_⟩
  rcases h2 with h2 | ⟨g, cap, cur, hv, hg, hh, r⟩
  · exact .inl h2
  · have hlt : g < w.heap.size := by
      rcases Nat.lt_or_ge g w.heap.size with h' | h'
      · exact h'
      · rw [Array.getElem?_eq_none h'] at hh; cases hh
    subst hv
    exact .inr ⟨g, cap, cur, rfl, hg, (ho.block g hlt (fun e => hq (by simpa [Value.ownBlock] using e))).trans hh, r⟩
end Go.Proofs.YtcodmijphejfdaaDoor
