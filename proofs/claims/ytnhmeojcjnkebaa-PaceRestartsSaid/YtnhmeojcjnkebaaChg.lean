/- Footprints: of what was there only some blocks may have turned ('Chg'). No conditions beyond those typed. -/
import Derived.Test.YtnhmeojcjnkebaaGen
namespace Go.Proofs.Ytnhmeojcjnkebaa
open Go.RowKit

/-- Of what was there only the blocks of S may have turned. -/
structure Chg (S : List Nat) (w w' : World) : Prop where
  os : w'.os = w.os
  tape : w'.tape = w.tape
  output : w'.output = w.output
  size : w.heap.size ≤ w'.heap.size
  block : ∀ i, i < w.heap.size → i ∉ S → w'.heap[i]? = w.heap[i]?
/-- The blocks of T are old ones of S, or new. -/
def Fresh (w : World) (S T : List Nat) : Prop := ∀ i ∈ T, i ∈ S ∨ w.heap.size ≤ i
theorem Fresh.refl (w : World) (S : List Nat) : Fresh w S S := fun _ h => .inl h
theorem Fresh.trans {w w' : World} {S T U : List Nat} (h : Fresh w S T) (k : Fresh w' T U) (hs : w.heap.size ≤ w'.heap.size) : Fresh w S U := fun i hi =>
  (k i hi).elim (h i) (fun h' => .inr (Nat.le_trans hs h'))
theorem Chg.refl (S : List Nat) (w : World) : Chg S w w := ⟨rfl, rfl, rfl, Nat.le_refl _, fun _ _ _ => rfl⟩
theorem Chg.trans {S T : List Nat} {a b c : World} (h : Chg S a b) (k : Chg T b c) (hs : Fresh a S T) : Chg S a c :=
  ⟨k.os.trans h.os, k.tape.trans h.tape, k.output.trans h.output, Nat.le_trans h.size k.size, fun i hi hn => (k.block i (Nat.lt_of_lt_of_le hi h.size) (fun hm => (hs i hm).elim hn (fun h' => absurd hi (Nat.not_lt.2 h')))).trans (h.block i hi hn)⟩
theorem Chg.of_below {S : List Nat} {w w' : World} (h : Below w.heap.size w w') : Chg S w w' := ⟨h.os, h.tape, h.output, h.size, fun i hi _ => h.block i hi⟩
theorem Chg.below {S : List Nat} {B : Nat} {w0 w w' : World} (h : Chg S w w') (hb : Below B w0 w) (hB : B ≤ w.heap.size) (hS : ∀ i ∈ S, B ≤ i) : Below B w0 w' :=
  hb.trans ⟨h.os, h.tape, h.output, h.size, fun k hk => h.block k (Nat.lt_of_lt_of_le hk hB) (fun hm => absurd hk (Nat.not_lt.2 (hS k hm)))⟩
theorem Chg.setCell {S : List Nat} {w w' : World} (h : Chg S w w') {a : Addr} (ha : a.block ∈ S ∨ w.heap.size ≤ a.block) (u : Value) : Chg S w (w'.setCell a u) :=
  ⟨h.os, h.tape, h.output, by simpa [World.setCell] using h.size, fun i hi hn => (Below.heap_setCell _ _ _ _ (fun e => by
    subst e
    exact ha.elim hn (fun h' => absurd hi (Nat.not_lt.2 h')))).trans (h.block i hi hn)⟩
theorem Chg.alloc {S : List Nat} {w w' : World} (h : Chg S w w') (o : Obj) : Chg S w (w'.alloc o) :=
  ⟨h.os, h.tape, h.output, by have := h.size; simp; omega, fun i hi hn => (Below.heap_alloc _ _ _ (Nat.lt_of_lt_of_le hi h.size)).trans (h.block i hi hn)⟩
theorem Chg.app {S : List Nat} {w w' : World} {B : Nat} {v v' : Value} (h : App B w w' v v') (hv : ∀ k, v.ownBlock = some k → k ∈ S) : Chg S w w' :=
  ⟨h.below.os, h.below.tape, h.below.output, h.below.size, fun i hi hn => h.other i hi (fun e => hn (hv i e.symm))⟩
theorem Chg.grown {S : List Nat} {w w' : World} {r : Nat} (h : w.grownBy w' (some r)) (hr : r ∈ S) : Chg S w w' :=
  ⟨h.os, h.tape, h.output, h.size, fun i hi hn => h.block i hi (fun e => hn (by injection e with e; rw [e]; exact hr))⟩
theorem Chg.of_grown {S : List Nat} {w w' : World} {r : Option Nat} (h : w.grownBy w' r) (hr : ∀ k, r = some k → k ∈ S) : Chg S w w' :=
  ⟨h.os, h.tape, h.output, h.size, fun i hi hn => h.block i hi (fun e => hn (hr i e.symm))⟩
theorem Chg.drew {S : List Nat} {w w' : World} (h : Chg S w w') : Chg S w w'.drew := ⟨h.os, h.tape, h.output, h.size, h.block⟩
theorem Chg.cell {S : List Nat} {w w' : World} (h : Chg S w w') {b o : Nat} (hb : b < w.heap.size) (hn : b ∉ S) : w'.cell? ⟨b, o, none⟩ = w.cell? ⟨b, o, none⟩ := World.cell?_of_block (a := ⟨b, o, none⟩) (h.block b hb hn)

/-- The blocks of a row. -/
def rowB (v : Value) : List Nat := match v.ownBlock with | some q => [q] | none => []
theorem mem_rowB {v : Value} {i : Nat} : i ∈ rowB v ↔ v.ownBlock = some i := by
  unfold rowB
  cases h : v.ownBlock with
  | none => simp
  | some q => simp; exact eq_comm
theorem own_chg {S : List Nat} {w w' : World} {B : Nat} {e : TypeId} {size : Nat} {v : Value} {n : Nat} {xs : List Value} (h : w.ownsRow B e size v n xs) (hc : Chg S w w') (hn : ∀ k, v.ownBlock = some k → k ∉ S) : w'.ownsRow B e size v n xs := by
  obtain ⟨h1, h2⟩ := h
  refine ⟨h1, ?_⟩
  rcases h2 with h2 | ⟨g, cap, cur, hv, hg, hh, r⟩
  · exact .inl h2
  · have hlt : g < w.heap.size := by
      rcases Nat.lt_or_ge g w.heap.size with h' | h'
      · exact h'
      · rw [Array.getElem?_eq_none h'] at hh; cases hh
    subst hv
    exact .inr ⟨g, cap, cur, rfl, hg, (hc.block g hlt (hn g rfl)).trans hh, r⟩
theorem rowB_lt {w : World} {B : Nat} {e : TypeId} {size : Nat} {v : Value} {n : Nat} {xs : List Value} (h : w.ownsRow B e size v n xs) : ∀ i ∈ rowB v, i < w.heap.size := fun i hi =>
  (h.lt i (mem_rowB.1 hi)).2

/-- Four rows of the call's own, in blocks of their own. -/
structure R4 (W : World) (B : Nat) (u1 : Value) (l1 : List Int) (u2 : Value) (l2 : List Int) (u3 : Value) (l3 : List Int) (u4 : Value) (l4 : List Int) : Prop where
  o1 : W.ownsRow B 3 1 u1 l1.length (l1.map (Value.int .i64))
  o2 : W.ownsRow B 3 1 u2 l2.length (l2.map (Value.int .i64))
  o3 : W.ownsRow B 3 1 u3 l3.length (l3.map (Value.int .i64))
  o4 : W.ownsRow B 3 1 u4 l4.length (l4.map (Value.int .i64))
  s12 : ∀ k, u1.ownBlock = some k → u2.ownBlock ≠ some k
  s13 : ∀ k, u1.ownBlock = some k → u3.ownBlock ≠ some k
  s14 : ∀ k, u1.ownBlock = some k → u4.ownBlock ≠ some k
  s23 : ∀ k, u2.ownBlock = some k → u3.ownBlock ≠ some k
  s24 : ∀ k, u2.ownBlock = some k → u4.ownBlock ≠ some k
  s34 : ∀ k, u3.ownBlock = some k → u4.ownBlock ≠ some k
section
variable {W W' : World} {B : Nat} {u1 u2 u3 u4 : Value} {l1 l2 l3 l4 : List Int}
theorem R4.start (W : World) (B : Nat) : R4 W B (.slice none 0 0) [] (.slice none 0 0) [] (.slice none 0 0) [] (.slice none 0 0) [] :=
  ⟨World.ownsRow_nil _ _ _ _, World.ownsRow_nil _ _ _ _, World.ownsRow_nil _ _ _ _, World.ownsRow_nil _ _ _ _, fun k h => (by cases h), fun k h => (by cases h), fun k h => (by cases h), fun k h => (by cases h), fun k h => (by cases h), fun k h => (by cases h)⟩
theorem R4.rot (h : R4 W B u1 l1 u2 l2 u3 l3 u4 l4) : R4 W B u2 l2 u3 l3 u4 l4 u1 l1 :=
  ⟨h.o2, h.o3, h.o4, h.o1, h.s23, h.s24, fun k e e' => h.s12 k e' e, h.s34, fun k e e' => h.s13 k e' e, fun k e e' => h.s14 k e' e⟩
theorem R4.set (h : R4 W B u1 l1 u2 l2 u3 l3 u4 l4) (q o : Nat) (v : Value) (hq : q < B) : R4 (W.setCell ⟨q, o, none⟩ v) B u1 l1 u2 l2 u3 l3 u4 l4 :=
  { h with o1 := ownsRow_setCell_below h.o1 (a := ⟨q, o, none⟩) hq v, o2 := ownsRow_setCell_below h.o2 (a := ⟨q, o, none⟩) hq v, o3 := ownsRow_setCell_below h.o3 (a := ⟨q, o, none⟩) hq v, o4 := ownsRow_setCell_below h.o4 (a := ⟨q, o, none⟩) hq v }
theorem app_sep {v v' u : Value} {e : TypeId} {s n : Nat} {xs : List Value} (hap : App B W W' v v') (ho : W.ownsRow B e s u n xs) (hs : ∀ k, v.ownBlock = some k → u.ownBlock ≠ some k) : W'.ownsRow B e s u n xs ∧ ∀ k, v'.ownBlock = some k → u.ownBlock ≠ some k := by
  refine ⟨hap.own ho ?_, fun k hk hu => ?_⟩
  · cases hu : u.ownBlock with
    | none => exact .inl rfl
    | some g => exact .inr fun e => hs g e.symm hu
  · rcases hap.blk with e | ⟨g, e, hg⟩
    · exact hs k (e ▸ hk) hu
    · rw [e] at hk
      injection hk with hk
      have := (ho.lt k hu).2
      omega
theorem R4.app (h : R4 W B u1 l1 u2 l2 u3 l3 u4 l4) {u' : Value} {y : Int} (hown : W'.ownsRow B 3 1 u' (l1.length + 1) ((l1 ++ [y]).map (Value.int .i64))) (hap : App B W W' u1 u') : R4 W' B u' (l1 ++ [y]) u2 l2 u3 l3 u4 l4 := by
  obtain ⟨a2, b2⟩ := app_sep hap h.o2 h.s12
  obtain ⟨a3, b3⟩ := app_sep hap h.o3 h.s13
  obtain ⟨a4, b4⟩ := app_sep hap h.o4 h.s14
  exact ⟨by simpa using hown, a2, a3, a4, b2, b3, b4, h.s23, h.s24, h.s34⟩
end
end Go.Proofs.Ytnhmeojcjnkebaa
