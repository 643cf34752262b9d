/- Blocks, the variables met and the block at hand while they are made: rows of the call's own in blocks of their own, beside a block X that is written. No conditions beyond those typed. -/
import Derived.Test.YtbighmmjmklioabDoorBlkM
namespace Go.Proofs.YtbighmmjmklioabDoor
open Go.RowKit

structure FmG (w : World) (B X : Nat) (o s x : Value) (bs : List Blk) (fl : List Value) (met cur : List Int) : Prop where
  xlt : X < w.heap.size
  out : w.ownsRow B 50 2 o bs.length fl
  each : ∀ j, j < bs.length → fl[j * 2]? = some (.bool (bs.getD j blk0).1) ∧ ∃ v, fl[j * 2 + 1]? = some v ∧ w.ownsRow B 3 1 v (bs.getD j blk0).2.length ((bs.getD j blk0).2.map (Value.int .i64)) ∧ ∀ g, v.ownBlock = some g → g < w.heap.size ∧ g ≠ X ∧ o.ownBlock ≠ some g ∧ s.ownBlock ≠ some g ∧ x.ownBlock ≠ some g
  seen : w.ownsRow B 3 1 s met.length (met.map (Value.int .i64))
  cur : w.ownsRow B 3 1 x cur.length (cur.map (Value.int .i64))
  so : ∀ g, s.ownBlock = some g → g < w.heap.size ∧ g ≠ X ∧ o.ownBlock ≠ some g ∧ x.ownBlock ≠ some g
  xo : ∀ g, x.ownBlock = some g → g < w.heap.size ∧ g ≠ X ∧ o.ownBlock ≠ some g
  oo : ∀ g, o.ownBlock = some g → g < w.heap.size ∧ g ≠ X
theorem FmG.start (w : World) (B X : Nat) (h : X < w.heap.size) : FmG w B X (.slice none 0 0) (.slice none 0 0) (.slice none 0 0) [] [] [] [] :=
  ⟨h, ⟨rfl, .inl ⟨rfl, rfl⟩⟩, fun _ hj => absurd hj (Nat.not_lt_zero _), ⟨rfl, .inl ⟨rfl, rfl⟩⟩, ⟨rfl, .inl ⟨rfl, rfl⟩⟩, fun g e => (by cases e), fun g e => (by cases e), fun g e => (by cases e)⟩
section
variable {w w' : World} {B X : Nat} {o s x : Value} {bs : List Blk} {fl : List Value} {met cur : List Int}
theorem FmG.keep (h : FmG w B X o s x bs fl met cur) (hb : Below w.heap.size w w') : FmG w' B X o s x bs fl met cur where
  xlt := Nat.lt_of_lt_of_le h.xlt hb.size
  out := own_keep h.out hb
  each := fun j hj => by
    obtain ⟨h0, v, h1, h2, h3⟩ := h.each j hj
    exact ⟨h0, v, h1, own_keep h2 hb, fun g e => ⟨Nat.lt_of_lt_of_le (h3 g e).1 hb.size, (h3 g e).2⟩⟩
  seen := own_keep h.seen hb
  cur := own_keep h.cur hb
  so := fun g e => ⟨Nat.lt_of_lt_of_le (h.so g e).1 hb.size, (h.so g e).2⟩
  xo := fun g e => ⟨Nat.lt_of_lt_of_le (h.xo g e).1 hb.size, (h.xo g e).2⟩
  oo := fun g e => ⟨Nat.lt_of_lt_of_le (h.oo g e).1 hb.size, (h.oo g e).2⟩
/-- Another block X, newly made. -/
theorem FmG.fresh (h : FmG w B X o s x bs fl met cur) (hb : Below w.heap.size w w') (hs : w.heap.size < w'.heap.size) : FmG w' B w.heap.size o s x bs fl met cur where
  xlt := hs
  out := own_keep h.out hb
  each := fun j hj => by
    obtain ⟨h0, v, h1, h2, h3⟩ := h.each j hj
    exact ⟨h0, v, h1, own_keep h2 hb, fun g e => ⟨Nat.lt_of_lt_of_le (h3 g e).1 hb.size, Nat.ne_of_lt (h3 g e).1, (h3 g e).2.2⟩⟩
  seen := own_keep h.seen hb
  cur := own_keep h.cur hb
  so := fun g e => ⟨Nat.lt_of_lt_of_le (h.so g e).1 hb.size, Nat.ne_of_lt (h.so g e).1, (h.so g e).2.2⟩
  xo := fun g e => ⟨Nat.lt_of_lt_of_le (h.xo g e).1 hb.size, Nat.ne_of_lt (h.xo g e).1, (h.xo g e).2.2⟩
  oo := fun g e => ⟨Nat.lt_of_lt_of_le (h.oo g e).1 hb.size, Nat.ne_of_lt (h.oo g e).1⟩
/-- An older block, or X, written: they stay. -/
theorem FmG.only {q : Nat} (h : FmG w B X o s x bs fl met cur) (ho : Only q w w') (hq : q < B ∨ q = X) : FmG w' B X o s x bs fl met cur := by
  have hne : ∀ {v : Value} {e : TypeId} {k n : Nat} {xs : List Value}, w.ownsRow B e k v n xs → (∀ g, v.ownBlock = some g → g ≠ X) → v.ownBlock ≠ some q := fun {v e k n xs} h1 h2 e' => by
    have h3 := (h1.lt q e').1
    have h4 := h2 q e'
    omega
  refine ⟨Nat.lt_of_lt_of_le h.xlt ho.size, own_other h.out ho (hne h.out fun g e => (h.oo g e).2), fun j hj => ?_, own_other h.seen ho (hne h.seen fun g e => (h.so g e).2.1), own_other h.cur ho (hne h.cur fun g e => (h.xo g e).2.1), fun g e => ⟨Nat.lt_of_lt_of_le (h.so g e).1 ho.size, (h.so g e).2⟩, fun g e => ⟨Nat.lt_of_lt_of_le (h.xo g e).1 ho.size, (h.xo g e).2⟩, fun g e => ⟨Nat.lt_of_lt_of_le (h.oo g e).1 ho.size, (h.oo g e).2⟩⟩
  obtain ⟨h0, v, h1, h2, h3⟩ := h.each j hj
  exact ⟨h0, v, h1, own_other h2 ho (hne h2 fun g e => (h3 g e).2.1), fun g e => ⟨Nat.lt_of_lt_of_le (h3 g e).1 ho.size, (h3 g e).2⟩⟩
theorem app_own {u s' t : Value} {e : TypeId} {k n : Nat} {xs : List Value} (ha : App B w w' t s') (h1 : w.ownsRow B e k u n xs) (h2 : ∀ g, u.ownBlock = some g → t.ownBlock ≠ some g) : w'.ownsRow B e k u n xs :=
  ha.own h1 (by
    cases e : u.ownBlock with
    | none => exact .inl rfl
    | some g => exact .inr fun e' => h2 g e e'.symm)
theorem FmG.addS {s' : Value} {y : Int} (h : FmG w B X o s x bs fl met cur) (ha : App B w w' s s') (ho : w'.ownsRow B 3 1 s' (met.length + 1) ((met ++ [y]).map (Value.int .i64))) : FmG w' B X o s' x bs fl (met ++ [y]) cur := by
  have hlt := ha.below.size
  refine ⟨Nat.lt_of_lt_of_le h.xlt hlt, app_own ha h.out (fun g e e' => (h.so g e').2.2.1 e), fun j hj => ?_, by simpa using ho, app_own ha h.cur (fun g e e' => (h.so g e').2.2.2 e), fun g e => ?_, fun g e => ⟨Nat.lt_of_lt_of_le (h.xo g e).1 hlt, (h.xo g e).2⟩, fun g e => ⟨Nat.lt_of_lt_of_le (h.oo g e).1 hlt, (h.oo g e).2⟩⟩
  · obtain ⟨h0, v, h1, h2, h3⟩ := h.each j hj
    exact ⟨h0, v, h1, app_own ha h2 (fun g e => (h3 g e).2.2.2.1), fun g e => ⟨Nat.lt_of_lt_of_le (h3 g e).1 hlt, (h3 g e).2.1, (h3 g e).2.2.1, ha.ne (h3 g e).1 (h3 g e).2.2.2.1, (h3 g e).2.2.2.2⟩⟩
  · refine ⟨own_ltG ho e, fun e' => ?_, fun e' => ?_, fun e' => ?_⟩
    · subst e'
      exact ha.ne h.xlt (fun e2 => (h.so _ e2).2.1 rfl) e
    · exact ha.ne (h.oo g e').1 (fun e2 => (h.so _ e2).2.2.1 e') e
    · exact ha.ne (h.xo g e').1 (fun e2 => (h.so _ e2).2.2.2 e') e
theorem FmG.addX {x' : Value} {y : Int} (h : FmG w B X o s x bs fl met cur) (ha : App B w w' x x') (ho : w'.ownsRow B 3 1 x' (cur.length + 1) ((cur ++ [y]).map (Value.int .i64))) : FmG w' B X o s x' bs fl met (cur ++ [y]) := by
  have hlt := ha.below.size
  refine ⟨Nat.lt_of_lt_of_le h.xlt hlt, app_own ha h.out (fun g e e' => (h.xo g e').2.2 e), fun j hj => ?_, app_own ha h.seen (fun g e => (h.so g e).2.2.2), by simpa using ho, fun g e => ⟨Nat.lt_of_lt_of_le (h.so g e).1 hlt, (h.so g e).2.1, (h.so g e).2.2.1, ha.ne (h.so g e).1 (h.so g e).2.2.2⟩, fun g e => ?_, fun g e => ⟨Nat.lt_of_lt_of_le (h.oo g e).1 hlt, (h.oo g e).2⟩⟩
  · obtain ⟨h0, v, h1, h2, h3⟩ := h.each j hj
    exact ⟨h0, v, h1, app_own ha h2 (fun g e => (h3 g e).2.2.2.2), fun g e => ⟨Nat.lt_of_lt_of_le (h3 g e).1 hlt, (h3 g e).2.1, (h3 g e).2.2.1, (h3 g e).2.2.2.1, ha.ne (h3 g e).1 (h3 g e).2.2.2.2⟩⟩
  · refine ⟨own_ltG ho e, fun e' => ?_, fun e' => ?_⟩
    · subst e'
      exact ha.ne h.xlt (fun e2 => (h.xo _ e2).2.1 rfl) e
    · exact ha.ne (h.oo g e').1 (fun e2 => (h.xo _ e2).2.2 e') e
theorem FmG.push {o' : Value} {e : Bool} (h : FmG w B X o s x bs fl met cur) (ha : App B w w' o o') (ho : w'.ownsRow B 50 2 o' (bs.length + 1) (fl ++ [.bool e, x])) : FmG w' B X o' s (.slice none 0 0) (bs ++ [(e, cur)]) (fl ++ [.bool e, x]) met [] := by
  have hlt := ha.below.size
  have hl : fl.length = bs.length * 2 := h.out.1
  refine ⟨Nat.lt_of_lt_of_le h.xlt hlt, by simpa using ho, fun j hj => ?_, app_own ha h.seen (fun g e => (h.so g e).2.2.1), ⟨rfl, .inl ⟨rfl, rfl⟩⟩, fun g e => ⟨Nat.lt_of_lt_of_le (h.so g e).1 hlt, (h.so g e).2.1, ha.ne (h.so g e).1 (h.so g e).2.2.1, fun e' => (by cases e')⟩, fun g e => (by cases e), fun g e' => ⟨own_ltG ho e', fun e2 => ?_⟩⟩
  · by_cases hlt2 : j < bs.length
    · obtain ⟨h0, u, h1, h2, h3⟩ := h.each j hlt2
      have hg : (bs ++ [(e, cur)]).getD j blk0 = bs.getD j blk0 := by simp [List.getD, List.getElem?_append_left hlt2]
      rw [hg]
      exact ⟨by rw [List.getElem?_append_left (by omega)]; exact h0, u, by rw [List.getElem?_append_left (by omega)]; exact h1, app_own ha h2 (fun g e => (h3 g e).2.2.1), fun g e => ⟨Nat.lt_of_lt_of_le (h3 g e).1 hlt, (h3 g e).2.1, ha.ne (h3 g e).1 (h3 g e).2.2.1, (h3 g e).2.2.2.1, fun e' => (by cases e')⟩⟩
    · have hj' : j = bs.length := by simp at hj; omega
      subst hj'
      have hg : (bs ++ [(e, cur)]).getD bs.length blk0 = (e, cur) := by simp [List.getD]
      rw [hg]
      refine ⟨by rw [List.getElem?_append_right (by omega), show bs.length * 2 - fl.length = 0 by omega]; rfl, x, by rw [List.getElem?_append_right (by omega), show bs.length * 2 + 1 - fl.length = 1 by omega]; rfl, app_own ha h.cur (fun g e => (h.xo g e).2.2), fun g e' => ⟨Nat.lt_of_lt_of_le (h.xo g e').1 hlt, (h.xo g e').2.1, ha.ne (h.xo g e').1 (h.xo g e').2.2, fun e2 => (h.so g e2).2.2.2 e', fun e2 => (by cases e2)⟩⟩
  · subst e2
    exact ha.ne h.xlt (fun e3 => (h.oo _ e3).2 rfl) e'
theorem FmG.reX {Y : Nat} (h : FmG w B X o s x bs fl met cur) (hY : Y < B) (hw : Y < w.heap.size) : FmG w B Y o s x bs fl met cur where
  xlt := hw
  out := h.out
  each := fun j hj => by
    obtain ⟨h0, v, h1, h2, h3⟩ := h.each j hj
    exact ⟨h0, v, h1, h2, fun g e => ⟨(h3 g e).1, fun e' => by have := (h2.lt g e).1; omega, (h3 g e).2.2⟩⟩
  seen := h.seen
  cur := h.cur
  so := fun g e => ⟨(h.so g e).1, fun e' => by have := (h.seen.lt g e).1; omega, (h.so g e).2.2⟩
  xo := fun g e => ⟨(h.xo g e).1, fun e' => by have := (h.cur.lt g e).1; omega, (h.xo g e).2.2⟩
  oo := fun g e => ⟨(h.oo g e).1, fun e' => by have := (h.out.lt g e).1; omega⟩
theorem FmG.blocks (h : FmG w B X o s x bs fl met cur) : BlG w B o bs fl := ⟨h.out, fun j hj => by
  obtain ⟨h0, v, h1, h2, h3⟩ := h.each j hj
  exact ⟨h0, v, h1, h2, fun g e => ⟨(h3 g e).1, (h3 g e).2.2.1⟩⟩⟩
end
end Go.Proofs.YtbighmmjmklioabDoor
