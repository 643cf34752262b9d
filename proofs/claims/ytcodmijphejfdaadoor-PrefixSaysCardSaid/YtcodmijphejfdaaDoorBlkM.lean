/- Blocks in memory: a slice of a kind and a slice of ints each, memory of the call's own while they are made ('BlG'), as they read ('BRowsAt'); marks of variables. No conditions beyond those typed. -/
import Derived.Test.YtcodmijphejfdaaDoorBlkP
import Derived.Test.YtcodmijphejfdaaDoorTold
import Derived.Test.YtcodmijphejfdaaDoorAsgOnly
namespace Go.Proofs.YtcodmijphejfdaaDoor
open Go.RowKit

theorem infoBlk : (Tryd.prog.info? 58).map (fun i => (i.zero, i.size, i.bytes)) = some (some (.agg #[.bool false, .slice none 0 0]), 2, 32) := by kernel_rfl
def blk0 : Blk := (false, [])
/-- The blocks made so far (their cells: fl). -/
structure BlG (w : World) (B : Nat) (o : Value) (bs : List Blk) (fl : List Value) : Prop where
  out : w.ownsRow B 58 2 o bs.length fl
  each : ∀ j, j < bs.length → fl[j * 2]? = some (.bool (bs.getD j blk0).1) ∧ ∃ v, fl[j * 2 + 1]? = some v ∧ w.ownsRow B 3 1 v (bs.getD j blk0).2.length ((bs.getD j blk0).2.map (Value.int .i64)) ∧ ∀ g, v.ownBlock = some g → g < w.heap.size ∧ o.ownBlock ≠ some g
theorem BlG.start (w : World) (B : Nat) : BlG w B (.slice none 0 0) [] [] :=
  ⟨⟨rfl, .inl ⟨rfl, rfl⟩⟩, fun _ hj => absurd hj (Nat.not_lt_zero _)⟩
theorem BlG.keep {w w' : World} {B : Nat} {o : Value} {bs : List Blk} {fl : List Value} (h : BlG w B o bs fl) (hb : Below w.heap.size w w') : BlG w' B o bs fl := by
  refine ⟨own_keep h.out hb, fun j hj => ?_⟩
  obtain ⟨h0, v, h1, h2, h3⟩ := h.each j hj
  exact ⟨h0, v, h1, own_keep h2 hb, fun g e => ⟨Nat.lt_of_lt_of_le (h3 g e).1 hb.size, (h3 g e).2⟩⟩
theorem BlG.mono {w : World} {B B' : Nat} {o : Value} {bs : List Blk} {fl : List Value} (h : BlG w B o bs fl) (hB : B' ≤ B) : BlG w B' o bs fl := by
  refine ⟨own_base h.out hB, fun j hj => ?_⟩
  obtain ⟨h0, v, h1, h2, h3⟩ := h.each j hj
  exact ⟨h0, v, h1, own_base h2 hB, h3⟩
theorem BlG.set {w : World} {B : Nat} {o : Value} {bs : List Blk} {fl : List Value} (h : BlG w B o bs fl) (q off : Nat) (u : Value) (hq : q < B) : BlG (w.setCell ⟨q, off, none⟩ u) B o bs fl := by
  refine ⟨ownsRow_setCell_below h.out (by simpa using hq) _, fun j hj => ?_⟩
  obtain ⟨h0, v, h1, h2, h3⟩ := h.each j hj
  exact ⟨h0, v, h1, ownsRow_setCell_below h2 (by simpa using hq) _, fun g e => ⟨by simpa [World.setCell] using (h3 g e).1, (h3 g e).2⟩⟩
/-- An older block written: they stay. -/
theorem BlG.only {w w' : World} {B q : Nat} {o : Value} {bs : List Blk} {fl : List Value} (h : BlG w B o bs fl) (ho : Only q w w') (hq : q < B) : BlG w' B o bs fl := by
  have hne : ∀ {v : Value} {e : TypeId} {s n : Nat} {xs : List Value}, w.ownsRow B e s v n xs → v.ownBlock ≠ some q := fun {v e s n xs} h e' => by
    have := (h.lt q e').1
    omega
  refine ⟨own_other h.out ho (hne h.out), fun j hj => ?_⟩
  obtain ⟨h0, v, h1, h2, h3⟩ := h.each j hj
  exact ⟨h0, v, h1, own_other h2 ho (hne h2), fun g e => ⟨Nat.lt_of_lt_of_le (h3 g e).1 ho.size, (h3 g e).2⟩⟩
theorem BlG.push {w w' : World} {B : Nat} {o o' v : Value} {bs : List Blk} {fl : List Value} {e : Bool} {l : List Int} (h : BlG w B o bs fl) (hv : w.ownsRow B 3 1 v l.length (l.map (Value.int .i64))) (hvo : ∀ g, v.ownBlock = some g → o.ownBlock ≠ some g)
    (ha : App B w w' o o') (ho : w'.ownsRow B 58 2 o' (bs.length + 1) (fl ++ [.bool e, v])) : BlG w' B o' (bs ++ [(e, l)]) (fl ++ [.bool e, v]) := by
  have hl : fl.length = bs.length * 2 := h.out.1
  have hsw : ∀ {u : Value} {xs : List Value} {n : Nat}, w.ownsRow B 3 1 u n xs → (∀ g, u.ownBlock = some g → g < w.heap.size ∧ o.ownBlock ≠ some g) → w'.ownsRow B 3 1 u n xs ∧ ∀ g, u.ownBlock = some g → g < w'.heap.size ∧ o'.ownBlock ≠ some g := fun {u xs n} h1 h2 =>
    ⟨ha.own h1 (by
      cases e : u.ownBlock with
      | none => exact .inl rfl
      | some g => exact .inr fun e' => (h2 g e).2 e'.symm), fun g e => ⟨Nat.lt_of_lt_of_le (h2 g e).1 ha.below.size, ha.ne (h2 g e).1 (h2 g e).2⟩⟩
  refine ⟨by simpa using ho, fun j hj => ?_⟩
  by_cases hlt : j < bs.length
  · obtain ⟨h0, u, h1, h2, h3⟩ := h.each j hlt
    have hg : (bs ++ [(e, l)]).getD j blk0 = bs.getD j blk0 := by simp [List.getD, List.getElem?_append_left hlt]
    rw [hg]
    refine ⟨by rw [List.getElem?_append_left (by omega)]; exact h0, u, by rw [List.getElem?_append_left (by omega)]; exact h1, ?_⟩
    exact hsw h2 h3
  · have hj' : j = bs.length := by simp at hj; omega
    subst hj'
    have hg : (bs ++ [(e, l)]).getD bs.length blk0 = (e, l) := by simp [List.getD]
    rw [hg]
    refine ⟨by rw [List.getElem?_append_right (by omega), show bs.length * 2 - fl.length = 0 by omega]; rfl, v, by rw [List.getElem?_append_right (by omega), show bs.length * 2 + 1 - fl.length = 1 by omega]; rfl, ?_⟩
    exact hsw hv fun g e' => ⟨own_ltG hv e', hvo g e'⟩

/-- The slice at a (len the number of blocks, capacity c) reads as these blocks. -/
def BRowsAt (w : World) (a : Option Addr) (c : Nat) (bs : List Blk) : Prop :=
  bs.length ≤ c ∧ c ≤ maxLen ∧ (bs.length = 0 ∨ ∃ b off, a = some ⟨b, off, none⟩ ∧ b < w.heap.size ∧ ∀ i, i < bs.length → w.cell? ⟨b, off + i * 2, none⟩ = some (.bool (bs.getD i blk0).1) ∧ ∃ v, w.cell? ⟨b, off + i * 2 + 1, none⟩ = some v ∧ Row w v (bs.getD i blk0).2)
theorem BRowsAt.keep {w w' : World} {a : Option Addr} {c : Nat} {bs : List Blk} (h : BRowsAt w a c bs) (hb : Below w.heap.size w w') : BRowsAt w' a c bs := by
  obtain ⟨h1, h2, h3⟩ := h
  refine ⟨h1, h2, ?_⟩
  rcases h3 with h3 | ⟨b, off, e, hlt, hc⟩
  · exact .inl h3
  · refine .inr ⟨b, off, e, Nat.lt_of_lt_of_le hlt hb.size, fun i hi => ?_⟩
    obtain ⟨g0, v, g1, g2⟩ := hc i hi
    exact ⟨(hb.cell (p := ⟨b, off + i * 2, none⟩) hlt).trans g0, v, (hb.cell (p := ⟨b, off + i * 2 + 1, none⟩) hlt).trans g1, g2.keep hb⟩
theorem BRowsAt.nil (w : World) : BRowsAt w none 0 [] := ⟨Nat.le_refl _, by unfold maxLen; omega, .inl rfl⟩
theorem BlG.rows {w : World} {B : Nat} {o : Value} {bs : List Blk} {fl : List Value} (h : BlG w B o bs fl) : ∃ a cap, o = .slice a bs.length cap ∧ BRowsAt w a cap bs := by
  rcases h.out.2 with ⟨e0, e1⟩ | ⟨g, cap, cl, e0, hb, hg, hn, hm, hs, ht⟩
  · subst e0
    have : bs = [] := List.eq_nil_of_length_eq_zero e1
    subst this
    exact ⟨none, 0, rfl, BRowsAt.nil w⟩
  · subst e0
    have hlt : g < w.heap.size := own_ltG h.out rfl
    have hget : ∀ k v, fl[k]? = some v → k < bs.length * 2 → w.cell? ⟨g, k, none⟩ = some v := fun k v hk hlt2 => by
      rw [← ht, List.getElem?_take, if_pos hlt2] at hk
      have : cl[k]? = some v := by rw [← hk]; simp
      simp only [World.cell?, hg]
      simpa using this
    refine ⟨_, cap, rfl, hn, hm, .inr ⟨g, 0, rfl, hlt, fun i hi => ?_⟩⟩
    obtain ⟨h0, v, h1, h2, _⟩ := h.each i hi
    refine ⟨by rw [Nat.zero_add]; exact hget _ _ h0 (by omega), v, by rw [Nat.zero_add]; exact hget _ _ h1 (by omega), own_row h2⟩
/-- The value is a slice of blocks that reads as bs; all made since the block B. -/
def BRow (w : World) (B : Nat) (v : Value) (bs : List Blk) : Prop := ∃ fl, BlG w B v bs fl
theorem BRow.keep {w w' : World} {B : Nat} {v : Value} {bs : List Blk} (h : BRow w B v bs) (hb : Below w.heap.size w w') : BRow w' B v bs := by
  obtain ⟨fl, h⟩ := h
  exact ⟨fl, h.keep hb⟩
theorem BRow.mono {w : World} {B B' : Nat} {v : Value} {bs : List Blk} (h : BRow w B v bs) (hB : B' ≤ B) : BRow w B' v bs := by
  obtain ⟨fl, h⟩ := h
  exact ⟨fl, h.mono hB⟩
theorem BRow.set {w : World} {B : Nat} {v : Value} {bs : List Blk} (h : BRow w B v bs) (q off : Nat) (u : Value) (hq : q < B) : BRow (w.setCell ⟨q, off, none⟩ u) B v bs := by
  obtain ⟨fl, h⟩ := h
  exact ⟨fl, h.set q off u hq⟩
theorem BRow.nil (w : World) (B : Nat) : BRow w B (.slice none 0 0) [] := ⟨_, BlG.start w B⟩
theorem BRow.rows {w : World} {B : Nat} {v : Value} {bs : List Blk} (h : BRow w B v bs) : ∃ a cap, v = .slice a bs.length cap ∧ BRowsAt w a cap bs := by
  obtain ⟨fl, h⟩ := h
  exact h.rows

theorem cells2 (w W : World) (x y : Value) (T : TypeId) (h : Below (w.alloc (.cells #[x, y] T)).heap.size (w.alloc (.cells #[x, y] T)) W) : W.cell? ⟨w.heap.size, 0, none⟩ = some x ∧ W.cell? ⟨w.heap.size, 1, none⟩ = some y := by
  obtain ⟨hc, _⟩ := bcell h
  exact ⟨by rw [hc _ _ (by simp), World.cell?_alloc_at _ _ _ _ (by simp)]; rfl, by rw [hc _ _ (by simp), World.cell?_alloc_at _ _ _ _ (by simp)]; rfl⟩
theorem cells3 (w W : World) (x y z : Value) (T : TypeId) (h : Below (w.alloc (.cells #[x, y, z] T)).heap.size (w.alloc (.cells #[x, y, z] T)) W) : W.cell? ⟨w.heap.size, 0, none⟩ = some x ∧ W.cell? ⟨w.heap.size, 1, none⟩ = some y ∧ W.cell? ⟨w.heap.size, 2, none⟩ = some z := by
  obtain ⟨hc, _⟩ := bcell h
  exact ⟨by rw [hc _ _ (by simp), World.cell?_alloc_at _ _ _ _ (by simp)]; rfl, by rw [hc _ _ (by simp), World.cell?_alloc_at _ _ _ _ (by simp)]; rfl, by rw [hc _ _ (by simp), World.cell?_alloc_at _ _ _ _ (by simp)]; rfl⟩
theorem Only.andThen {q : Nat} {w w3 w4 : World} (h : Only q w w3) (hb : Below w.heap.size w3 w4) : Only q w w4 :=
  ⟨hb.os.trans h.os, hb.tape.trans h.tape, hb.output.trans h.output, Nat.le_trans h.size hb.size, fun i hi hn => (hb.block i hi).trans (h.block i hi hn)⟩
theorem CelG.keepB {α : Type} {mk : α → Value} {d : α} {w w' : World} {q B : Nat} {xs : List α} (h : CelG mk d w q xs) (hb : Below B w w') (hq : q < B) : CelG mk d w' q xs where
  sq := Nat.lt_of_lt_of_le h.sq hb.size
  cells := fun i hi => (World.cell?_of_block (a := ⟨q, i, none⟩) (hb.block q hq)).trans (h.cells i hi)
  free := fun i => (World.frozen?_of_block (a := ⟨q, i, none⟩) (hb.block q hq)).trans (h.free i)

/-- Marks: which variables were met. -/
def MkL (n : Nat) (met : List Int) (bits : List Bool) : Prop := bits.length = n ∧ ∀ v : Nat, 1 ≤ v → v < n → bits.getD v false = met.contains (v : Int)
theorem MkL.start (n : Nat) : MkL n [] (List.replicate n false) := ⟨by simp, fun v _ h => by simp [List.getD, h]⟩
theorem MkL.add {n : Nat} {met : List Int} {bits : List Bool} (h : MkL n met bits) (v : Nat) (hv : v < n) : MkL n (met ++ [(v : Int)]) (bits.set v true) := by
  obtain ⟨h1, h2⟩ := h
  refine ⟨by simpa using h1, fun u h3 h4 => ?_⟩
  rw [getD_setG]
  by_cases e : v = u
  · subst e
    rw [if_pos ⟨rfl, by omega⟩]
    simp
  · rw [if_neg (fun hh => e hh.1), h2 u h3 h4]
    rw [Bool.eq_iff_iff]
    simp
    omega
theorem CelG.only {α : Type} {mk : α → Value} {d : α} {w w' : World} {q q' : Nat} {xs : List α} (h : CelG mk d w q xs) (ho : Only q' w w') (hq : q ≠ q') : CelG mk d w' q xs := by
  have hb : w'.heap[q]? = w.heap[q]? := ho.block q h.sq (fun e => hq (by injection e))
  exact ⟨Nat.lt_of_lt_of_le h.sq ho.size, fun i hi => (World.cell?_of_block (a := ⟨q, i, none⟩) hb).trans (h.cells i hi), fun i => (World.frozen?_of_block (a := ⟨q, i, none⟩) hb).trans (h.free i)⟩
end Go.Proofs.YtcodmijphejfdaaDoor
