/- The reader of package aag in memory ('RdM'); contracts of aag.at, aag.literal, of the reader's next. Conditions: the reader lies as 'RdM' says; the errors lie as 'Sents' says. -/
import Derived.Test.YtfkodpglgeghlaaDoorAgP
import Derived.Test.YtfkodpglgeghlaaDoorPrA
import Derived.Test.YtfkodpglgeghlaaDoorFault
namespace Go.Proofs.YtfkodpglgeghlaaDoor
open Go.RowKit

/-- Words in memory, from an offset on: cut slices too. -/
structure WCellsO (w : World) (g off : Nat) (ws : List Wd) : Prop where
  sq : g < w.heap.size
  text : ∀ i, i < ws.length → w.cell? ⟨g, off + i * 3, none⟩ = some (.string (strOfNums (ws.getD i wd0).1))
  pos : ∀ i, i < ws.length → w.cell? ⟨g, off + i * 3 + 1, none⟩ = some (.int .i64 (ws.getD i wd0).2.1)
  fst : ∀ i, i < ws.length → w.cell? ⟨g, off + i * 3 + 2, none⟩ = some (.bool (ws.getD i wd0).2.2)
theorem WCellsO.chg {w w' : World} {g off : Nat} {ws : List Wd} {S : List Nat} (h : WCellsO w g off ws) (hc : Chg S w w') (hg : g ∉ S) : WCellsO w' g off ws where
  sq := Nat.lt_of_lt_of_le h.sq hc.size
  text := fun i hi => (hc.cell h.sq hg).trans (h.text i hi)
  pos := fun i hi => (hc.cell h.sq hg).trans (h.pos i hi)
  fst := fun i hi => (hc.cell h.sq hg).trans (h.fst i hi)
theorem WCellsO.tail {w : World} {g off : Nat} {x : Wd} {ws : List Wd} (h : WCellsO w g off (x :: ws)) : WCellsO w g (off + 3) ws := by
  have hg : ∀ i, (x :: ws).getD (i + 1) wd0 = ws.getD i wd0 := fun i => by simp [List.getD]
  refine ⟨h.sq, fun i hi => ?_, fun i hi => ?_, fun i hi => ?_⟩
  · rw [← hg, show off + 3 + i * 3 = off + (i + 1) * 3 by omega]; exact h.text _ (by simpa using hi)
  · rw [← hg, show off + 3 + i * 3 + 1 = off + (i + 1) * 3 + 1 by omega]; exact h.pos _ (by simpa using hi)
  · rw [← hg, show off + 3 + i * 3 + 2 = off + (i + 1) * 3 + 2 by omega]; exact h.fst _ (by simpa using hi)

/-- The reader at block p: the words that are left (in block g), the text's end. -/
def RdM (w : World) (p g : Nat) (e : Int) (ws : List Wd) : Prop :=
  (∃ a c, w.cell? ⟨p, 0, none⟩ = some (.slice a ws.length c) ∧ ws.length ≤ c ∧ c ≤ 9223372036854775807 ∧ (ws.length = 0 ∨ ∃ off, a = some ⟨g, off, none⟩ ∧ WCellsO w g off ws)) ∧ w.cell? ⟨p, 1, none⟩ = some (.int .i64 e) ∧ (∀ k, w.frozen? ⟨p, k, none⟩ = false) ∧ p < w.heap.size ∧ g < w.heap.size ∧ g ≠ p
theorem Chg.frz {S : List Nat} {w w' : World} (h : Chg S w w') {b o : Nat} (hb : b < w.heap.size) (hn : b ∉ S) : w'.frozen? ⟨b, o, none⟩ = w.frozen? ⟨b, o, none⟩ := World.frozen?_of_block (a := ⟨b, o, none⟩) (h.block b hb hn)
theorem RdM.keep {w w' : World} {p g : Nat} {e : Int} {ws : List Wd} {S : List Nat} (h : RdM w p g e ws) (hc : Chg S w w') (hp : p ∉ S) (hg : g ∉ S) : RdM w' p g e ws := by
  obtain ⟨⟨a, c, h1, h2, h3, h4⟩, h5, h6, h7, h8, h9⟩ := h
  refine ⟨⟨a, c, (hc.cell h7 hp).trans h1, h2, h3, ?_⟩, (hc.cell h7 hp).trans h5, fun k => (hc.frz h7 hp).trans (h6 k), Nat.lt_of_lt_of_le h7 hc.size, Nat.lt_of_lt_of_le h8 hc.size, h9⟩
  rcases h4 with h4 | ⟨off, e1, h4⟩
  · exact .inl h4
  · exact .inr ⟨off, e1, h4.chg hc hg⟩
theorem RdM.chg {w w' : World} {p g : Nat} {e : Int} {ws : List Wd} (h : RdM w p g e ws) (hb : Below w.heap.size w w') : RdM w' p g e ws := h.keep (S := []) (Chg.of_below hb) (by simp) (by simp)
theorem RdM.set {w : World} {p g q o : Nat} {e : Int} {ws : List Wd} {v : Value} (h : RdM w p g e ws) (h1 : q ≠ p) (h2 : q ≠ g) : RdM (w.setCell ⟨q, o, none⟩ v) p g e ws :=
  h.keep (S := [q]) ((Chg.refl _ _).setCell (.inl (by simp)) _) (by simp; omega) (by simp; omega)
/-- Behind a store of the cut slice. -/
theorem RdM.next {w : World} {p g : Nat} {e : Int} {x : Wd} {ws : List Wd} {off c : Nat} (h : RdM w p g e (x :: ws)) (hc : w.cell? ⟨p, 0, none⟩ = some (.slice (some ⟨g, off, none⟩) (ws.length + 1) c)) (hw : WCellsO w g off (x :: ws)) (a : Option Addr) (ha : a = some ⟨g, off + 3, none⟩ ∨ ws.length = 0) (c' : Nat) (hc1 : ws.length ≤ c') (hc2 : c' ≤ 9223372036854775807) :
    RdM (w.setCell ⟨p, 0, none⟩ (.slice a ws.length c')) p g e ws ∧ Chg [p] w (w.setCell ⟨p, 0, none⟩ (.slice a ws.length c')) := by
  obtain ⟨_, h5, h6, h7, h8, h9⟩ := h
  have hC : Chg [p] w (w.setCell ⟨p, 0, none⟩ (.slice a ws.length c')) := (Chg.refl _ _).setCell (.inl (by simp)) _
  refine ⟨⟨⟨a, c', set_at hc, hc1, hc2, ?_⟩, (set_off (.inr (by decide))).trans h5, fun k => (World.frozen?_setCell _ _ _ _).trans (h6 k), by simpa using h7, by simpa using h8, h9⟩, hC⟩
  rcases ha with ha | ha
  · exact .inr ⟨off + 3, ha, hw.tail.chg hC (by simpa using h9)⟩
  · exact .inl ha

/-- The value is an *api.At around the i-th error, with this place, made since the block B. -/
def AtB (A : Nat → Addr) (B : Nat) (w : World) (ev : Value) (k : Int) (i : Nat) : Prop := ∃ b, B ≤ b ∧ ev = .iface 73 (.pointer (some ⟨b, 0, none⟩)) ∧ w.cell? ⟨b, 0, none⟩ = some (.int .i64 k) ∧ w.cell? ⟨b, 1, none⟩ = some (sentV A i)
theorem AtB.keep {A : Nat → Addr} {B : Nat} {w w' : World} {ev : Value} {k : Int} {i : Nat} (h : AtB A B w ev k i) (hb : Below w.heap.size w w') : AtB A B w' ev k i := by
  obtain ⟨b, hB, e, h0, h1⟩ := h
  have hlt := World.block_lt_of_cell? w _ h0
  exact ⟨b, hB, e, (hb.cell (p := ⟨b, 0, none⟩) hlt).trans h0, (hb.cell (p := ⟨b, 1, none⟩) hlt).trans h1⟩
theorem AtB.set {A : Nat → Addr} {B : Nat} {w : World} {ev : Value} {k : Int} {i : Nat} (h : AtB A B w ev k i) (q o : Nat) (v : Value) (hq : q < B) : AtB A B (w.setCell ⟨q, o, none⟩ v) ev k i := by
  obtain ⟨b, hB, e, h0, h1⟩ := h
  exact ⟨b, hB, e, (set_off (.inl (by omega))).trans h0, (set_off (.inl (by omega))).trans h1⟩
theorem AtB.keep2 {A : Nat → Addr} {B : Nat} {w w' : World} {ev : Value} {k : Int} {i q : Nat} (h : AtB A B w ev k i) (hc : Chg [q] w w') (hq : q < B) : AtB A B w' ev k i := by
  obtain ⟨b, hB, e, h0, h1⟩ := h
  have hlt := World.block_lt_of_cell? w _ h0
  have hn : b ∉ [q] := by simp; omega
  exact ⟨b, hB, e, (hc.cell hlt hn).trans h0, (hc.cell hlt hn).trans h1⟩
theorem AtB.mono {A : Nat → Addr} {B B' : Nat} {w : World} {ev : Value} {k : Int} {i : Nat} (h : AtB A B w ev k i) (hB : B' ≤ B) : AtB A B' w ev k i := by
  obtain ⟨b, hb, h⟩ := h
  exact ⟨b, by omega, h⟩
theorem AtB.err {A : Nat → Addr} {B : Nat} {w : World} {ev : Value} {k : Int} {i : Nat} (h : AtB A B w ev k i) (hS : Sents w A) (hi : i < 7) : ErrAs w ev (101 + (i : Int)) true k := by
  obtain ⟨b, _, rfl, h0, h1⟩ := h
  exact errAs_at hS i hi b _ h0 h1
/-- The errors lie as they ought to, whatever the reader's own block holds. -/
def SentsP (A : Nat → Addr) (p : Nat) (w : World) : Prop := ∀ W, Chg [p] w W → Sents W A
theorem SentsP.of {A : Nat → Addr} {p : Nat} {w w1 : World} (h : Sents w A) (hb : Below w.heap.size w w1) (hp : w.heap.size ≤ p) : SentsP A p w1 := fun W hW => h.keep (hW.below hb hb.size (by intro i hi; simp at hi; omega))
theorem SentsP.chg {A : Nat → Addr} {p : Nat} {w w1 : World} (h : SentsP A p w) (hc : Chg [p] w w1) : SentsP A p w1 := fun W hW => h W (hc.trans hW (Fresh.refl _ _))
theorem SentsP.here {A : Nat → Addr} {p : Nat} {w : World} (h : SentsP A p w) : Sents w A := h w (Chg.refl _ _)

set_option maxHeartbeats 1000000 in
theorem at_any (A : Nat → Addr) (k : Int) (i : Nat) (w : World) : Calls Tryd.prog 38 #[.int .i64 k, .iface 135 (.pointer (some (A i)))] w fun e w' => (∃ ev, e = .returned ev ∧ AtB A w.heap.size w' ev k i) ∧ Below w.heap.size w w' := by
  go_enter Tryd.func38, Tryd.ntmps38
  go_wp2
  go_ret
  refine ⟨⟨_, rfl, w.heap.size, Nat.le_refl _, rfl, ?_, ?_⟩, (Below.refl _ w).alloc (Nat.le_refl _) _⟩
  · rw [World.cell?_alloc_at _ _ _ _ (by simp)]; rfl
  · rw [World.cell?_alloc_at _ _ _ _ (by simp)]; rfl

set_option maxHeartbeats 400000 in
theorem literal_any (n : Int) (w : World) (h0 : -1000000000000 ≤ n) (h1 : n ≤ 1000000000000) : Calls Tryd.prog 42 #[.int .i64 n] w fun e w' => e = .returned (.int .i64 (2 * n)) ∧ w = w' := by
  go_enter Tryd.func42, Tryd.ntmps42
  go_wp2
  go_ret
  exact ⟨rfl, rfl⟩

/-- A word as a value. -/
def wordV (x : Wd) : Value := .agg #[.string (strOfNums x.1), .int .i64 x.2.1, .bool x.2.2]
def wordZ : Value := .agg #[.string ⟨#[]⟩, .int .i64 0, .bool false]
def NextP (A : Nat → Addr) (w : World) (p g : Nat) (e : Int) (R : Rd Wd) (r : Ending) (w' : World) : Prop :=
  match R with
  | .bad k => ∃ ev, r = .returned (.tuple #[wordZ, ev]) ∧ AtB A w.heap.size w' ev k 0 ∧ Below w.heap.size w w'
  | .got x ws => r = .returned (.tuple #[wordV x, .nilIface]) ∧ RdM w' p g e ws ∧ Chg [p] w w'
end Go.Proofs.YtfkodpglgeghlaaDoor
