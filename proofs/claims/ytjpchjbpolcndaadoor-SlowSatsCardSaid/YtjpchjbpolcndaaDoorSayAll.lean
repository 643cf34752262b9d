/- The contract of skolemmake.Formula without free variables: two blocks, all variables among these. Conditions: the slice reads as 64-bit ints and is short; one to nine variables. · Contracts of skolemmake.Game and of skolemref.SameBools at equal lists; the drawn formula as a game. Conditions: the slices read as the lists named. · Contracts of skolemref1.place and skolemref1.Matrix: the clauses renamed, or none. Conditions: the game reads as lists of 64-bit ints, no literal the least int. · The contract of skolemref1.Matrix: the clauses renamed, or none. Conditions: the game reads as lists of 64-bit ints, no literal the least int. · Contracts of skolemref1.Wins, Value and Sat: by going through all. Conditions: the game reads as lists of 64-bit ints, is right and small; the clauses are right. · Contracts of skolemref1.Value and Sat: by going through all. Conditions: the game reads as lists of 64-bit ints, is right and small; the clauses are right. · The drawn game of SlowSays: what holds of it; what slow and the reference say of it. Conditions: those typed. · The law SlowSays: true for whatever arguments. Conditions: the slice reads as 64-bit ints; the two errors lie as 'Sents2' says. -/
import Derived.Test.YtjpchjbpolcndaaDoorMakeF
import Derived.Test.YtjpchjbpolcndaaDoorSlA
import Derived.Test.YtjpchjbpolcndaaDoorSameG
import Derived.Deep.RegionHeld3
import Derived.Test.YtjpchjbpolcndaaDoorMatP
import Derived.Test.YtjpchjbpolcndaaDoorRef
import Derived.Deep.DeepCutAuto
import Derived.Deep.CutBlock
import Derived.Test.YtjpchjbpolcndaaDoorSlE
import Derived.Test.YtjpchjbpolcndaaDoorSlD
import Derived.Test.YtjpchjbpolcndaaDoorRead
namespace Go.Proofs.YtjpchjbpolcndaaDoor
open Go.RowKit

/-- The two blocks' variables before the variable v: all of these. -/
structure SpJ (v : Int) (la lb : List Int) : Prop where
  rng : ∀ u, u ∈ la ++ lb → 1 ≤ u ∧ u < v
  all : ∀ u, 1 ≤ u → u < v → u ∈ la ++ lb
theorem SpJ.start : SpJ 1 [] [] := ⟨fun u h => by simp at h, fun u h1 h2 => by omega⟩
theorem SpJ.putA {v : Int} {la lb : List Int} (h : SpJ v la lb) (hv : 1 ≤ v) : SpJ (v + 1) (la ++ [v]) lb := by
  have hm : ∀ u, u ∈ la ++ [v] ++ lb ↔ u ∈ la ++ lb ∨ u = v := fun u => by
    simp only [List.mem_append, List.mem_singleton]
    constructor
    · rintro ((a | a) | a)
      · exact .inl (.inl a)
      · exact .inr a
      · exact .inl (.inr a)
    · rintro ((a | a) | a)
      · exact .inl (.inl a)
      · exact .inr a
      · exact .inl (.inr a)
  refine ⟨fun u hu => ?_, fun u h1 h2 => ?_⟩
  · rcases (hm u).1 hu with a | rfl
    · have := h.rng u a; omega
    · omega
  · rw [hm]
    by_cases e2 : u = v
    · exact .inr e2
    · exact .inl (h.all u h1 (by omega))
theorem SpJ.putB {v : Int} {la lb : List Int} (h : SpJ v la lb) (hv : 1 ≤ v) : SpJ (v + 1) la (lb ++ [v]) := by
  have hm : ∀ u, u ∈ la ++ (lb ++ [v]) ↔ u ∈ la ++ lb ∨ u = v := fun u => by
    rw [← List.append_assoc, List.mem_append, List.mem_singleton]
  refine ⟨fun u hu => ?_, fun u h1 h2 => ?_⟩
  · rcases (hm u).1 hu with a | rfl
    · have := h.rng u a; omega
    · omega
  · rw [hm]
    by_cases e2 : u = v
    · exact .inr e2
    · exact .inl (h.all u h1 (by omega))
/-- The two blocks while they are made: cells of the blocks p (the formula), p + 1, p + 2. -/
def SpD (mm : Nat) (wr : World) (p : Nat) (ex ey : Bool) (va vb : Value) (vc : Value) : Prop :=
  wr.cell? ⟨p, 0, none⟩ = some (.slice none 0 0) ∧ wr.cell? ⟨p, 1, none⟩ = some (.int .i64 (mm : Int)) ∧ wr.cell? ⟨p, 2, none⟩ = some vc ∧ wr.cell? ⟨p + 1, 0, none⟩ = some (.bool ex) ∧ wr.cell? ⟨p + 1, 1, none⟩ = some va ∧ wr.cell? ⟨p + 1 + 1, 0, none⟩ = some (.bool ey) ∧ wr.cell? ⟨p + 1 + 1, 1, none⟩ = some vb ∧
    (∀ j, wr.frozen? ⟨p, j, none⟩ = false) ∧ (∀ j, wr.frozen? ⟨p + 1, j, none⟩ = false) ∧ (∀ j, wr.frozen? ⟨p + 1 + 1, j, none⟩ = false)
theorem SpD.keep {mm : Nat} {w w' : World} {p : Nat} {ex ey : Bool} {va vb vc : Value} (h : SpD mm w p ex ey va vb vc) (hb : Below (p + 3) w w') : SpD mm w' p ex ey va vb vc := by
  obtain ⟨z0, z1, z2, z3, z4, z5, z6, z7, z8, z9⟩ := h
  have c : ∀ b j u, b < p + 3 → w.cell? ⟨b, j, none⟩ = some u → w'.cell? ⟨b, j, none⟩ = some u := fun b j u hb' hc => (hb.cell (p := ⟨b, j, none⟩) hb').trans hc
  have f : ∀ b j, b < p + 3 → w.frozen? ⟨b, j, none⟩ = false → w'.frozen? ⟨b, j, none⟩ = false := fun b j hb' hc => (hb.frozen (p := ⟨b, j, none⟩) hb').trans hc
  exact ⟨c _ _ _ (by omega) z0, c _ _ _ (by omega) z1, c _ _ _ (by omega) z2, c _ _ _ (by omega) z3, c _ _ _ (by omega) z4, c _ _ _ (by omega) z5, c _ _ _ (by omega) z6, fun j => f _ _ (by omega) (z7 j), fun j => f _ _ (by omega) (z8 j), fun j => f _ _ (by omega) (z9 j)⟩
theorem SpD.setA {mm : Nat} {w : World} {p : Nat} {ex ey : Bool} {va vb vc : Value} (h : SpD mm w p ex ey va vb vc) (u : Value) : SpD mm (w.setCell ⟨p + 1, 1, none⟩ u) p ex ey u vb vc := by
  obtain ⟨z0, z1, z2, z3, z4, z5, z6, z7, z8, z9⟩ := h
  have o : ∀ b j, (b ≠ p + 1 ∨ j ≠ 1) → (w.setCell ⟨p + 1, 1, none⟩ u).cell? ⟨b, j, none⟩ = w.cell? ⟨b, j, none⟩ := fun b j h => World.cell?_setCell_other _ _ _ _ (fun e => by injection e with e1 e2; omega)
  exact ⟨(o _ _ (by omega)).trans z0, (o _ _ (by omega)).trans z1, (o _ _ (by omega)).trans z2, (o _ _ (by omega)).trans z3, World.cell?_setCell_same _ _ _ z4, (o _ _ (by omega)).trans z5, (o _ _ (by omega)).trans z6, fun j => (World.frozen?_setCell _ _ _ _).trans (z7 j), fun j => (World.frozen?_setCell _ _ _ _).trans (z8 j), fun j => (World.frozen?_setCell _ _ _ _).trans (z9 j)⟩
theorem SpD.setB {mm : Nat} {w : World} {p : Nat} {ex ey : Bool} {va vb vc : Value} (h : SpD mm w p ex ey va vb vc) (u : Value) : SpD mm (w.setCell ⟨p + 1 + 1, 1, none⟩ u) p ex ey va u vc := by
  obtain ⟨z0, z1, z2, z3, z4, z5, z6, z7, z8, z9⟩ := h
  have o : ∀ b j, (b ≠ p + 1 + 1 ∨ j ≠ 1) → (w.setCell ⟨p + 1 + 1, 1, none⟩ u).cell? ⟨b, j, none⟩ = w.cell? ⟨b, j, none⟩ := fun b j h => World.cell?_setCell_other _ _ _ _ (fun e => by injection e with e1 e2; omega)
  exact ⟨(o _ _ (by omega)).trans z0, (o _ _ (by omega)).trans z1, (o _ _ (by omega)).trans z2, (o _ _ (by omega)).trans z3, (o _ _ (by omega)).trans z4, (o _ _ (by omega)).trans z5, World.cell?_setCell_same _ _ _ z6, fun j => (World.frozen?_setCell _ _ _ _).trans (z7 j), fun j => (World.frozen?_setCell _ _ _ _).trans (z8 j), fun j => (World.frozen?_setCell _ _ _ _).trans (z9 j)⟩
/-- The formula handed back: the blocks' slice laid, stored, the whole copied to the result's place. -/
def formV (mm : Nat) (wr : World) (p r0 : Nat) (ex ey : Bool) (va vb vc : Value) : World :=
  ((((wr.alloc (.cells #[.bool ex, va, .bool ey, vb] 78)).setCell ⟨p, 0, none⟩ (.slice (some ⟨wr.heap.size, 0, none⟩) 2 2)).setCell ⟨r0, 0, none⟩ (.slice (some ⟨wr.heap.size, 0, none⟩) 2 2)).setCell ⟨r0, 1, none⟩ (.int .i64 (mm : Int))).setCell ⟨r0, 2, none⟩ vc
theorem form_endV {mm : Nat} {w1 wr : World} {p r0 : Nat} {ex ey : Bool} {va vb vc u0 u1 u2 : Value} {la lb : List Int} {xss : List (List Int)} (hp : w1.heap.size = p) (hr : r0 < p) (hC : CRow w1 (r0 + 1) vc xss) (hB : Below p w1 wr) (hR : SpR wr p va vb la lb) (hs : p + 3 ≤ wr.heap.size)
    (x0 : wr.cell? ⟨r0, 0, none⟩ = some u0) (x1 : wr.cell? ⟨r0, 1, none⟩ = some u1) (x2 : wr.cell? ⟨r0, 2, none⟩ = some u2) :
    BRowsAt (formV mm wr p r0 ex ey va vb vc) (some ⟨wr.heap.size, 0, none⟩) 2 [(ex, la), (ey, lb)] ∧ CRow (formV mm wr p r0 ex ey va vb vc) (r0 + 1) vc xss ∧
      ((formV mm wr p r0 ex ey va vb vc).cell? ⟨r0, 0, none⟩ = some (.slice (some ⟨wr.heap.size, 0, none⟩) 2 2) ∧ (formV mm wr p r0 ex ey va vb vc).cell? ⟨r0, 1, none⟩ = some (.int .i64 (mm : Int)) ∧ (formV mm wr p r0 ex ey va vb vc).cell? ⟨r0, 2, none⟩ = some vc) ∧ Below r0 w1 (formV mm wr p r0 ex ey va vb vc) := by
  have hA : Below wr.heap.size wr (wr.alloc (.cells #[.bool ex, va, .bool ey, vb] 78)) := (Below.refl _ _).alloc (Nat.le_refl _) _
  have hA2 : Below p w1 (wr.alloc (.cells #[.bool ex, va, .bool ey, vb] 78)) := hB.alloc (by omega) _
  have o : ∀ (W : World) (b j b' j' : Nat) (v : Value), (b ≠ b' ∨ j ≠ j') → (W.setCell ⟨b, j, none⟩ v).cell? ⟨b', j', none⟩ = W.cell? ⟨b', j', none⟩ := fun W b j b' j' v h => World.cell?_setCell_other _ _ _ _ (fun e => by injection e with e1 e2; omega)
  have hoth : ∀ b j, b ≠ p → b ≠ r0 → (formV mm wr p r0 ex ey va vb vc).cell? ⟨b, j, none⟩ = (wr.alloc (.cells #[.bool ex, va, .bool ey, vb] 78)).cell? ⟨b, j, none⟩ := fun b j h1 h2 => by
    unfold formV
    rw [o _ r0 2 b j _ (.inl (Ne.symm h2)), o _ r0 1 b j _ (.inl (Ne.symm h2)), o _ r0 0 b j _ (.inl (Ne.symm h2)), o _ p 0 b j _ (.inl (Ne.symm h1))]
  have hrow : ∀ {v : Value} {l : List Int}, wr.ownsRow (p + 3) 3 1 v l.length (l.map (Value.int .i64)) → Row (formV mm wr p r0 ex ey va vb vc) v l := fun {v l} h =>
    own_row (ownsRow_setCell_below (ownsRow_setCell_below (ownsRow_setCell_below (ownsRow_setCell_below (own_keep h hA) (by show p < p + 3; omega) _) (by show r0 < p + 3; omega) _) (by show r0 < p + 3; omega) _) (by show r0 < p + 3; omega) _)
  have hk : ∀ j u, (#[Value.bool ex, va, .bool ey, vb] : Array Value)[j]? = some u → (formV mm wr p r0 ex ey va vb vc).cell? ⟨wr.heap.size, j, none⟩ = some u := fun j u h => by
    rw [hoth _ _ (by omega) (by omega), World.cell?_alloc_at _ _ _ _ rfl]
    exact h
  have hlt : wr.heap.size < (formV mm wr p r0 ex ey va vb vc).heap.size := by simp [formV]
  refine ⟨⟨Nat.le_refl _, by unfold maxLen; omega, .inr ⟨_, 0, rfl, hlt, fun i hi => ?_⟩⟩, ?_, ⟨?_, ?_, ?_⟩, ?_⟩
  · match i, hi with
    | 0, _ => exact ⟨hk 0 _ rfl, va, hk 1 _ rfl, hrow hR.a⟩
    | 1, _ => exact ⟨hk 2 _ rfl, vb, hk 3 _ rfl, hrow hR.b⟩
  · have h1 : CRow ((wr.alloc (.cells #[.bool ex, va, .bool ey, vb] 78)).setCell ⟨p, 0, none⟩ (.slice (some ⟨wr.heap.size, 0, none⟩) 2 2)) (r0 + 1) vc xss := hC.keep (by rw [hp]; exact hA2.setCell (Nat.le_refl p) _)
    exact ((h1.set _ _ _ (Nat.lt_succ_self _)).set _ _ _ (Nat.lt_succ_self _)).set _ _ _ (Nat.lt_succ_self _)
  · unfold formV
    rw [o _ r0 2 r0 0 _ (.inr (by decide)), o _ r0 1 r0 0 _ (.inr (by decide))]
    exact World.cell?_setCell_same _ _ _ (u := u0) (by rw [o _ p 0 r0 0 _ (.inl (by omega))]; exact (hA.cell (p := ⟨r0, 0, none⟩) (World.block_lt_of_cell? _ _ x0)).trans x0)
  · unfold formV
    rw [o _ r0 2 r0 1 _ (.inr (by decide))]
    exact World.cell?_setCell_same _ _ _ (u := u1) (by rw [o _ r0 0 r0 1 _ (.inr (by decide)), o _ p 0 r0 1 _ (.inl (by omega))]; exact (hA.cell (p := ⟨r0, 1, none⟩) (World.block_lt_of_cell? _ _ x1)).trans x1)
  · unfold formV
    exact World.cell?_setCell_same _ _ _ (u := u2) (by rw [o _ r0 1 r0 2 _ (.inr (by decide)), o _ r0 0 r0 2 _ (.inr (by decide)), o _ p 0 r0 2 _ (.inl (by omega))]; exact (hA.cell (p := ⟨r0, 2, none⟩) (World.block_lt_of_cell? _ _ x2)).trans x2)
  · exact ((((hA2.mono (Nat.le_of_lt hr)).setCell (show r0 ≤ p by omega) _).setCell (Nat.le_refl r0) _).setCell (Nat.le_refl r0) _).setCell (Nat.le_refl r0) _

/-- What holds before the variable v. -/
def SpRelV (mm : Nat) (w0 : World) (r p : Nat) (ex ey : Bool) (vc i : Value) (wr : World) : Prop :=
  ∃ (v : Nat) (la lb : List Int) (va vb : Value), 1 ≤ v ∧ v ≤ mm + 1 ∧ i = .int .i64 v ∧ SpR wr p va vb la lb ∧ SpD mm wr p ex ey va vb vc ∧ Below r w0 wr ∧ p + 3 ≤ wr.heap.size ∧ SpJ v la lb ∧ la.length + lb.length < v

set_option maxHeartbeats 4000000 in
set_option maxRecDepth 100000 in
theorem makeFormV_true (a : Option Addr) (c : Nat) (cs : List Int) (fi : Nat) (mm : Nat) (w : World) (hm1 : 1 ≤ mm) (hm2 : mm ≤ 9) (hv : RowAt w a c cs) (hcs : ∀ y ∈ cs, -9223372036854775808 ≤ y ∧ y ≤ 9223372036854775807) (hn : cs.length ≤ 200) :
    Calls Tryd.prog 12 #[.slice a cs.length c, .int .i64 (mm : Int), .int .i64 (fi : Int), .bool true, .int .i64 0] w fun e w' => (∃ q d la lb ac cc xss, e = .returned (.agg #[.slice q 2 d, .int .i64 (mm : Int), .slice ac (List.length xss) cc]) ∧ BRowsAt w' q d [(true, la), (false, lb)] ∧ RowsAt w' ac cc xss ∧ SpJ ((mm : Int) + 1) la lb ∧ la.length + lb.length ≤ mm ∧
      (∀ c ∈ xss, ∀ l ∈ c, l ≠ 0 ∧ isF l (mm : Int) = true) ∧ (xss.map List.length).sum ≤ cs.length ∧ xss.length ≤ cs.length) ∧ Below w.heap.size w w' := by
  have HM := Lib.hid (fun W (hW : Below w.heap.size w W) => makeCNF_any a c cs (mm : Int) W (by omega) (by omega) (hv.keep hW) hcs hn)
  have HB := Lib.hid (fun o => show Below w.heap.size w (w.alloc o) from (Below.refl _ w).alloc (Nat.le_refl _) _)
  have HBX : Hid (∀ W, Below (w.heap.size + 1) (w.alloc (.cells #[.slice none 0 0, .int .i64 0, .slice none 0 0] 32)) W → Below w.heap.size w W ∧ W.cell? ⟨w.heap.size, 0, none⟩ = some (.slice none 0 0) ∧ W.cell? ⟨w.heap.size, 1, none⟩ = some (.int .i64 0) ∧ W.cell? ⟨w.heap.size, 2, none⟩ = some (.slice none 0 0) ∧ ∀ j, W.frozen? ⟨w.heap.size, j, none⟩ = false) := fun W h0 => by
    have h : Below (w.alloc (.cells #[.slice none 0 0, .int .i64 0, .slice none 0 0] 32)).heap.size (w.alloc (.cells #[.slice none 0 0, .int .i64 0, .slice none 0 0] 32)) W := by simpa using h0
    obtain ⟨h1, h2, h3⟩ := cells3 w W _ _ _ _ h
    obtain ⟨_, hf⟩ := bcell h
    exact ⟨((Below.refl _ w).alloc (Nat.le_refl _) _).trans (h.mono (by simp)), h1, h2, h3, fun j => by rw [hf _ _ (by simp), World.frozen?_alloc_at _ _ _ _ (by simp)]⟩
  clear hv hcs
  generalize cs.length = nc at *
  go_enter Tryd.func12, Tryd.ntmps12
  go_wp2_with (go_at_call 16; refine (HM.out _ (HB.out _)).mono ?_; rintro e w1 ⟨⟨v0, xss, rfl, hC, h1, h2, h3⟩, hb1⟩; obtain ⟨a9, c9, rfl, _⟩ := hC.rows)
  have HCX := Lib.hid (And.intro hC (And.intro h1 (And.intro h2 h3)))
  have HB1 := Lib.hid hb1
  have hs1 : w.heap.size + 1 ≤ w1.heap.size := by have := hb1.size; simpa using this
  have HBW := Lib.hid ((HB.out (.cells #[.slice none 0 0, .int .i64 0, .slice none 0 0] 32)).trans (hb1.mono (by simp)))
  clear hC h1 h2 h3 hb1
  generalize hp : w1.heap.size = p at *
  have hsz3 : (((w1.alloc (.cells #[.slice none 0 0, .int .i64 (mm : Int), .slice a9 xss.length c9] 32)).alloc (.cells #[.bool true, .slice none 0 0] 78)).alloc (.cells #[.bool false, .slice none 0 0] 78)).heap.size = p + 3 := by simp [hp]
  have hC0 : SpD mm (((w1.alloc (.cells #[.slice none 0 0, .int .i64 (mm : Int), .slice a9 xss.length c9] 32)).alloc (.cells #[.bool true, .slice none 0 0] 78)).alloc (.cells #[.bool false, .slice none 0 0] 78)) p true false (.slice none 0 0) (.slice none 0 0) (.slice a9 xss.length c9) := by
    have e1 : Below (w1.alloc (.cells #[.slice none 0 0, .int .i64 (mm : Int), .slice a9 xss.length c9] 32)).heap.size (w1.alloc (.cells #[.slice none 0 0, .int .i64 (mm : Int), .slice a9 xss.length c9] 32)) (((w1.alloc (.cells #[.slice none 0 0, .int .i64 (mm : Int), .slice a9 xss.length c9] 32)).alloc (.cells #[.bool true, .slice none 0 0] 78)).alloc (.cells #[.bool false, .slice none 0 0] 78)) := ((Below.refl _ _).alloc (Nat.le_refl _) _).alloc (by simp) _
    have e2 : Below ((w1.alloc (.cells #[.slice none 0 0, .int .i64 (mm : Int), .slice a9 xss.length c9] 32)).alloc (.cells #[.bool true, .slice none 0 0] 78)).heap.size ((w1.alloc (.cells #[.slice none 0 0, .int .i64 (mm : Int), .slice a9 xss.length c9] 32)).alloc (.cells #[.bool true, .slice none 0 0] 78)) (((w1.alloc (.cells #[.slice none 0 0, .int .i64 (mm : Int), .slice a9 xss.length c9] 32)).alloc (.cells #[.bool true, .slice none 0 0] 78)).alloc (.cells #[.bool false, .slice none 0 0] 78)) := (Below.refl _ _).alloc (Nat.le_refl _) _
    obtain ⟨x0, x1, x2⟩ := cells3 w1 _ _ _ _ _ e1
    obtain ⟨x3, x4⟩ := cells2 _ _ _ _ _ e2
    obtain ⟨x5, x6⟩ := cells2 _ _ _ _ _ (Below.refl (((w1.alloc (.cells #[.slice none 0 0, .int .i64 (mm : Int), .slice a9 xss.length c9] 32)).alloc (.cells #[.bool true, .slice none 0 0] 78)).alloc (.cells #[.bool false, .slice none 0 0] 78)).heap.size (((w1.alloc (.cells #[.slice none 0 0, .int .i64 (mm : Int), .slice a9 xss.length c9] 32)).alloc (.cells #[.bool true, .slice none 0 0] 78)).alloc (.cells #[.bool false, .slice none 0 0] 78)))
    obtain ⟨_, f1⟩ := bcell e1
    obtain ⟨_, f2⟩ := bcell e2
    rw [hp] at x0 x1 x2
    have s1 : (w1.alloc (.cells #[.slice none 0 0, .int .i64 (mm : Int), .slice a9 xss.length c9] 32)).heap.size = p + 1 := by simp [hp]
    have s2 : ((w1.alloc (.cells #[.slice none 0 0, .int .i64 (mm : Int), .slice a9 xss.length c9] 32)).alloc (.cells #[.bool true, .slice none 0 0] 78)).heap.size = p + 1 + 1 := by simp [hp]
    rw [s1] at x3 x4
    rw [s2] at x5 x6
    exact ⟨x0, x1, x2, x3, x4, x5, x6, fun j => (f1 p j (by simp [hp])).trans (World.frozen?_alloc_at _ _ _ _ (by simp [hp])), fun j => (f2 (p + 1) j (by simp [hp])).trans (World.frozen?_alloc_at _ _ _ _ (by simp [hp])), fun j => World.frozen?_alloc_at _ _ _ _ (by simp [hp])⟩
  have HC0 := Lib.hid hC0
  have HBP : Hid (Below p w1 (((w1.alloc (.cells #[.slice none 0 0, .int .i64 (mm : Int), .slice a9 xss.length c9] 32)).alloc (.cells #[.bool true, .slice none 0 0] 78)).alloc (.cells #[.bool false, .slice none 0 0] 78))) := (((Below.refl _ w1).alloc (by rw [hp]; exact Nat.le_refl _) _).alloc (by simp [hp]) _).alloc (by simp [hp]; omega) _
  clear hC0
  generalize (((w1.alloc (.cells #[.slice none 0 0, .int .i64 (mm : Int), .slice a9 xss.length c9] 32)).alloc (.cells #[.bool true, .slice none 0 0] 78)).alloc (.cells #[.bool false, .slice none 0 0] 78)) = W3 at *
  go_loopw [14] (fun i wr => SpRelV mm w1 p p true false (.slice a9 xss.length c9) i wr) (fun i _ => mm + 1 - (intOf i).toNat)
  case atStart => exact ⟨1, [], [], _, _, by omega, by omega, rfl, ⟨⟨rfl, .inl ⟨rfl, rfl⟩⟩, ⟨rfl, .inl ⟨rfl, rfl⟩⟩, fun g e => (by cases e)⟩, HC0.out, HBP.out, by omega, SpJ.start, by simp⟩
  case round =>
    obtain ⟨v, la, lb, va, vb, hv1, hv10, rfl, hR, hC, hbr, hsz, hI, hll⟩ := hrel
    obtain ⟨z0, z1, z2, z3, z4, z5, z6, z7, z8, z9⟩ := hC
    have HC := Lib.hid (show SpD mm wr p true false va vb (.slice a9 xss.length c9) from ⟨z0, z1, z2, z3, z4, z5, z6, z7, z8, z9⟩)
    have HR := Lib.hid hR
    have HI := Lib.hid hI
    have HBR := Lib.hid hbr
    obtain ⟨aa, ca, rfl⟩ := own_shape3 hR.a
    obtain ⟨ab, cb, rfl⟩ := own_shape3 hR.b
    clear hR hI hbr
    by_cases hlt : v ≤ mm
    · have hd : decide ((v : Int) ≤ (mm : Int)) = true := decide_eq_true (by omega)
      have hd' : decide (v ≤ mm) = true := decide_eq_true hlt
      · have hd1 : decide ((v : Int) ≤ 0) = false := decide_eq_false (by omega)
        have hd2 : decide (v ≤ 0) = false := decide_eq_false (by omega)
        by_cases hf : v ≤ fi
        · have hd3 : decide ((v : Int) ≤ (fi : Int)) = true := decide_eq_true (by omega)
          have hd4 : decide (v ≤ fi) = true := decide_eq_true hf
          clear hf
          go_wp2_with (at_builtin; refine wpList_app1 rfl _ _ rfl wr (p + 3) _ _ la (v : Int) HR.out.a (by omega) (by omega) rfl rfl ?_; intro v6 w6 hown6 hap6; obtain ⟨z0, z1, z2, z3, z4, z5, z6, z7, z8, z9⟩ := HC.out.keep hap6.below; have hs6 := hap6.below.size; have HR6 := Lib.hid (HR.out.putA hap6 hown6 1 v6 (p + 1) (by omega)); have HC6 := Lib.hid ((HC.out.keep hap6.below).setA v6); have HB6 := Lib.hid (show Below p w1 (w6.setCell ⟨p + 1, 1, none⟩ v6) from (HBR.out.trans (hap6.below.mono (by omega))).setCell (by show p ≤ p + 1; omega) v6); obtain ⟨a6, c6, rfl⟩ := own_shape3 hown6)
          go_roundw
          case measure => simp [intOf]; omega
          case rel => unfold SpRelV; exact ⟨v + 1, la ++ [(v : Int)], lb, _, _, by omega, by omega, by go_num, HR6.out, HC6.out, HB6.out, by simp; omega, (HI.out.putA (by omega) : SpJ ((v : Int) + 1) _ _), by simp; omega⟩
        · have hd3 : decide ((v : Int) ≤ (fi : Int)) = false := decide_eq_false (by omega)
          have hd4 : decide (v ≤ fi) = false := decide_eq_false hf
          clear hf
          go_wp2_with (at_builtin; refine wpList_app1 rfl _ _ rfl wr (p + 3) _ _ lb (v : Int) HR.out.b (by omega) (by omega) rfl rfl ?_; intro v6 w6 hown6 hap6; obtain ⟨z0, z1, z2, z3, z4, z5, z6, z7, z8, z9⟩ := HC.out.keep hap6.below; have hs6 := hap6.below.size; have HR6 := Lib.hid (HR.out.putB hap6 hown6 1 v6 (p + 1 + 1) (by omega)); have HC6 := Lib.hid ((HC.out.keep hap6.below).setB v6); have HB6 := Lib.hid (show Below p w1 (w6.setCell ⟨p + 1 + 1, 1, none⟩ v6) from (HBR.out.trans (hap6.below.mono (by omega))).setCell (by show p ≤ p + 1 + 1; omega) v6); obtain ⟨a6, c6, rfl⟩ := own_shape3 hown6)
          go_roundw
          case measure => simp [intOf]; omega
          case rel => unfold SpRelV; exact ⟨v + 1, la, lb ++ [(v : Int)], _, _, by omega, by omega, by go_num, HR6.out, HC6.out, HB6.out, by simp; omega, (HI.out.putB (by omega) : SpJ ((v : Int) + 1) _ _), by simp; omega⟩
    · have hv9 : v = mm + 1 := by omega
      subst hv9
      have hd : decide (((mm + 1 : Nat) : Int) ≤ (mm : Int)) = false := decide_eq_false (by omega)
      have hd0 : decide ((mm : Int) + 1 ≤ (mm : Int)) = false := decide_eq_false (by omega)
      have hd9 : decide (mm + 1 ≤ mm) = false := decide_eq_false (by omega)
      have zz := fun o => HC.out.keep ((Below.refl (p + 3) wr).alloc hsz o)
      have y0 := fun o => (zz o).1
      have y1 := fun o => (zz o).2.1
      have y2 := fun o => (zz o).2.2.1
      have y3 := fun o => (zz o).2.2.2.2.2.2.2.1 0
      have HBF := Lib.hid ((HB1.out.mono (show w.heap.size + 1 ≤ _ by simp)).trans (HBR.out.mono hs1))
      have xx := fun o => (HBX.out _ (HBF.out.alloc (by omega) o)).2
      have x0 := fun o => (xx o).1
      have x1 := fun o => (xx o).2.1
      have x2 := fun o => (xx o).2.2.1
      have x3 := fun o => (xx o).2.2.2 0
      have x4 := fun o => (xx o).2.2.2 1
      have x5 := fun o => (xx o).2.2.2 2
      have hne : ¬ w.heap.size = p := by omega
      have hne' : ¬ p = w.heap.size := by omega
      clear zz xx
      go_wp2_with fail
      obtain ⟨g1, g2, g3, g4⟩ := form_endV (ex := true) (ey := false) hp hs1 (by simpa using HCX.out.1) HBR.out HR.out hsz (HBX.out _ HBF.out).2.1 (HBX.out _ HBF.out).2.2.1 (HBX.out _ HBF.out).2.2.2.1
      obtain ⟨ac, cc, e9, g5⟩ := g2.rows
      injection e9 with e1 _ e3
      subst e1; subst e3
      exact bodyPost_ret (v := .agg #[.slice (some ⟨wr.heap.size, 0, none⟩) 2 2, .int .i64 (mm : Int), .slice a9 xss.length c9]) (form_ret _ w.heap.size _ _ _ _ rfl g3) rfl ⟨⟨_, 2, la, lb, a9, c9, xss, rfl, g1, g5, by simpa using HI.out, by omega, HCX.out.2.1, HCX.out.2.2.1, HCX.out.2.2.2⟩, HBW.out.trans (g4.mono (Nat.le_refl _))⟩

set_option maxHeartbeats 4000000 in
set_option maxRecDepth 100000 in
theorem makeFormV_false (a : Option Addr) (c : Nat) (cs : List Int) (fi : Nat) (mm : Nat) (w : World) (hm1 : 1 ≤ mm) (hm2 : mm ≤ 9) (hv : RowAt w a c cs) (hcs : ∀ y ∈ cs, -9223372036854775808 ≤ y ∧ y ≤ 9223372036854775807) (hn : cs.length ≤ 200) :
    Calls Tryd.prog 12 #[.slice a cs.length c, .int .i64 (mm : Int), .int .i64 (fi : Int), .bool false, .int .i64 0] w fun e w' => (∃ q d la lb ac cc xss, e = .returned (.agg #[.slice q 2 d, .int .i64 (mm : Int), .slice ac (List.length xss) cc]) ∧ BRowsAt w' q d [(false, la), (true, lb)] ∧ RowsAt w' ac cc xss ∧ SpJ ((mm : Int) + 1) la lb ∧ la.length + lb.length ≤ mm ∧
      (∀ c ∈ xss, ∀ l ∈ c, l ≠ 0 ∧ isF l (mm : Int) = true) ∧ (xss.map List.length).sum ≤ cs.length ∧ xss.length ≤ cs.length) ∧ Below w.heap.size w w' := by
  have HM := Lib.hid (fun W (hW : Below w.heap.size w W) => makeCNF_any a c cs (mm : Int) W (by omega) (by omega) (hv.keep hW) hcs hn)
  have HB := Lib.hid (fun o => show Below w.heap.size w (w.alloc o) from (Below.refl _ w).alloc (Nat.le_refl _) _)
  have HBX : Hid (∀ W, Below (w.heap.size + 1) (w.alloc (.cells #[.slice none 0 0, .int .i64 0, .slice none 0 0] 32)) W → Below w.heap.size w W ∧ W.cell? ⟨w.heap.size, 0, none⟩ = some (.slice none 0 0) ∧ W.cell? ⟨w.heap.size, 1, none⟩ = some (.int .i64 0) ∧ W.cell? ⟨w.heap.size, 2, none⟩ = some (.slice none 0 0) ∧ ∀ j, W.frozen? ⟨w.heap.size, j, none⟩ = false) := fun W h0 => by
    have h : Below (w.alloc (.cells #[.slice none 0 0, .int .i64 0, .slice none 0 0] 32)).heap.size (w.alloc (.cells #[.slice none 0 0, .int .i64 0, .slice none 0 0] 32)) W := by simpa using h0
    obtain ⟨h1, h2, h3⟩ := cells3 w W _ _ _ _ h
    obtain ⟨_, hf⟩ := bcell h
    exact ⟨((Below.refl _ w).alloc (Nat.le_refl _) _).trans (h.mono (by simp)), h1, h2, h3, fun j => by rw [hf _ _ (by simp), World.frozen?_alloc_at _ _ _ _ (by simp)]⟩
  clear hv hcs
  generalize cs.length = nc at *
  go_enter Tryd.func12, Tryd.ntmps12
  go_wp2_with (go_at_call 16; refine (HM.out _ (HB.out _)).mono ?_; rintro e w1 ⟨⟨v0, xss, rfl, hC, h1, h2, h3⟩, hb1⟩; obtain ⟨a9, c9, rfl, _⟩ := hC.rows)
  have HCX := Lib.hid (And.intro hC (And.intro h1 (And.intro h2 h3)))
  have HB1 := Lib.hid hb1
  have hs1 : w.heap.size + 1 ≤ w1.heap.size := by have := hb1.size; simpa using this
  have HBW := Lib.hid ((HB.out (.cells #[.slice none 0 0, .int .i64 0, .slice none 0 0] 32)).trans (hb1.mono (by simp)))
  clear hC h1 h2 h3 hb1
  generalize hp : w1.heap.size = p at *
  have hsz3 : (((w1.alloc (.cells #[.slice none 0 0, .int .i64 (mm : Int), .slice a9 xss.length c9] 32)).alloc (.cells #[.bool false, .slice none 0 0] 78)).alloc (.cells #[.bool true, .slice none 0 0] 78)).heap.size = p + 3 := by simp [hp]
  have hC0 : SpD mm (((w1.alloc (.cells #[.slice none 0 0, .int .i64 (mm : Int), .slice a9 xss.length c9] 32)).alloc (.cells #[.bool false, .slice none 0 0] 78)).alloc (.cells #[.bool true, .slice none 0 0] 78)) p false true (.slice none 0 0) (.slice none 0 0) (.slice a9 xss.length c9) := by
    have e1 : Below (w1.alloc (.cells #[.slice none 0 0, .int .i64 (mm : Int), .slice a9 xss.length c9] 32)).heap.size (w1.alloc (.cells #[.slice none 0 0, .int .i64 (mm : Int), .slice a9 xss.length c9] 32)) (((w1.alloc (.cells #[.slice none 0 0, .int .i64 (mm : Int), .slice a9 xss.length c9] 32)).alloc (.cells #[.bool false, .slice none 0 0] 78)).alloc (.cells #[.bool true, .slice none 0 0] 78)) := ((Below.refl _ _).alloc (Nat.le_refl _) _).alloc (by simp) _
    have e2 : Below ((w1.alloc (.cells #[.slice none 0 0, .int .i64 (mm : Int), .slice a9 xss.length c9] 32)).alloc (.cells #[.bool false, .slice none 0 0] 78)).heap.size ((w1.alloc (.cells #[.slice none 0 0, .int .i64 (mm : Int), .slice a9 xss.length c9] 32)).alloc (.cells #[.bool false, .slice none 0 0] 78)) (((w1.alloc (.cells #[.slice none 0 0, .int .i64 (mm : Int), .slice a9 xss.length c9] 32)).alloc (.cells #[.bool false, .slice none 0 0] 78)).alloc (.cells #[.bool true, .slice none 0 0] 78)) := (Below.refl _ _).alloc (Nat.le_refl _) _
    obtain ⟨x0, x1, x2⟩ := cells3 w1 _ _ _ _ _ e1
    obtain ⟨x3, x4⟩ := cells2 _ _ _ _ _ e2
    obtain ⟨x5, x6⟩ := cells2 _ _ _ _ _ (Below.refl (((w1.alloc (.cells #[.slice none 0 0, .int .i64 (mm : Int), .slice a9 xss.length c9] 32)).alloc (.cells #[.bool false, .slice none 0 0] 78)).alloc (.cells #[.bool true, .slice none 0 0] 78)).heap.size (((w1.alloc (.cells #[.slice none 0 0, .int .i64 (mm : Int), .slice a9 xss.length c9] 32)).alloc (.cells #[.bool false, .slice none 0 0] 78)).alloc (.cells #[.bool true, .slice none 0 0] 78)))
    obtain ⟨_, f1⟩ := bcell e1
    obtain ⟨_, f2⟩ := bcell e2
    rw [hp] at x0 x1 x2
    have s1 : (w1.alloc (.cells #[.slice none 0 0, .int .i64 (mm : Int), .slice a9 xss.length c9] 32)).heap.size = p + 1 := by simp [hp]
    have s2 : ((w1.alloc (.cells #[.slice none 0 0, .int .i64 (mm : Int), .slice a9 xss.length c9] 32)).alloc (.cells #[.bool false, .slice none 0 0] 78)).heap.size = p + 1 + 1 := by simp [hp]
    rw [s1] at x3 x4
    rw [s2] at x5 x6
    exact ⟨x0, x1, x2, x3, x4, x5, x6, fun j => (f1 p j (by simp [hp])).trans (World.frozen?_alloc_at _ _ _ _ (by simp [hp])), fun j => (f2 (p + 1) j (by simp [hp])).trans (World.frozen?_alloc_at _ _ _ _ (by simp [hp])), fun j => World.frozen?_alloc_at _ _ _ _ (by simp [hp])⟩
  have HC0 := Lib.hid hC0
  have HBP : Hid (Below p w1 (((w1.alloc (.cells #[.slice none 0 0, .int .i64 (mm : Int), .slice a9 xss.length c9] 32)).alloc (.cells #[.bool false, .slice none 0 0] 78)).alloc (.cells #[.bool true, .slice none 0 0] 78))) := (((Below.refl _ w1).alloc (by rw [hp]; exact Nat.le_refl _) _).alloc (by simp [hp]) _).alloc (by simp [hp]; omega) _
  clear hC0
  generalize (((w1.alloc (.cells #[.slice none 0 0, .int .i64 (mm : Int), .slice a9 xss.length c9] 32)).alloc (.cells #[.bool false, .slice none 0 0] 78)).alloc (.cells #[.bool true, .slice none 0 0] 78)) = W3 at *
  go_loopw [14] (fun i wr => SpRelV mm w1 p p false true (.slice a9 xss.length c9) i wr) (fun i _ => mm + 1 - (intOf i).toNat)
  case atStart => exact ⟨1, [], [], _, _, by omega, by omega, rfl, ⟨⟨rfl, .inl ⟨rfl, rfl⟩⟩, ⟨rfl, .inl ⟨rfl, rfl⟩⟩, fun g e => (by cases e)⟩, HC0.out, HBP.out, by omega, SpJ.start, by simp⟩
  case round =>
    obtain ⟨v, la, lb, va, vb, hv1, hv10, rfl, hR, hC, hbr, hsz, hI, hll⟩ := hrel
    obtain ⟨z0, z1, z2, z3, z4, z5, z6, z7, z8, z9⟩ := hC
    have HC := Lib.hid (show SpD mm wr p false true va vb (.slice a9 xss.length c9) from ⟨z0, z1, z2, z3, z4, z5, z6, z7, z8, z9⟩)
    have HR := Lib.hid hR
    have HI := Lib.hid hI
    have HBR := Lib.hid hbr
    obtain ⟨aa, ca, rfl⟩ := own_shape3 hR.a
    obtain ⟨ab, cb, rfl⟩ := own_shape3 hR.b
    clear hR hI hbr
    by_cases hlt : v ≤ mm
    · have hd : decide ((v : Int) ≤ (mm : Int)) = true := decide_eq_true (by omega)
      have hd' : decide (v ≤ mm) = true := decide_eq_true hlt
      · have _ := hlt
        by_cases hf : v ≤ fi
        · have hd3 : decide ((v : Int) ≤ (fi : Int)) = true := decide_eq_true (by omega)
          have hd4 : decide (v ≤ fi) = true := decide_eq_true hf
          clear hf
          go_wp2_with (at_builtin; refine wpList_app1 rfl _ _ rfl wr (p + 3) _ _ la (v : Int) HR.out.a (by omega) (by omega) rfl rfl ?_; intro v6 w6 hown6 hap6; obtain ⟨z0, z1, z2, z3, z4, z5, z6, z7, z8, z9⟩ := HC.out.keep hap6.below; have hs6 := hap6.below.size; have HR6 := Lib.hid (HR.out.putA hap6 hown6 1 v6 (p + 1) (by omega)); have HC6 := Lib.hid ((HC.out.keep hap6.below).setA v6); have HB6 := Lib.hid (show Below p w1 (w6.setCell ⟨p + 1, 1, none⟩ v6) from (HBR.out.trans (hap6.below.mono (by omega))).setCell (by show p ≤ p + 1; omega) v6); obtain ⟨a6, c6, rfl⟩ := own_shape3 hown6)
          go_roundw
          case measure => simp [intOf]; omega
          case rel => unfold SpRelV; exact ⟨v + 1, la ++ [(v : Int)], lb, _, _, by omega, by omega, by go_num, HR6.out, HC6.out, HB6.out, by simp; omega, (HI.out.putA (by omega) : SpJ ((v : Int) + 1) _ _), by simp; omega⟩
        · have hd3 : decide ((v : Int) ≤ (fi : Int)) = false := decide_eq_false (by omega)
          have hd4 : decide (v ≤ fi) = false := decide_eq_false hf
          clear hf
          go_wp2_with (at_builtin; refine wpList_app1 rfl _ _ rfl wr (p + 3) _ _ lb (v : Int) HR.out.b (by omega) (by omega) rfl rfl ?_; intro v6 w6 hown6 hap6; obtain ⟨z0, z1, z2, z3, z4, z5, z6, z7, z8, z9⟩ := HC.out.keep hap6.below; have hs6 := hap6.below.size; have HR6 := Lib.hid (HR.out.putB hap6 hown6 1 v6 (p + 1 + 1) (by omega)); have HC6 := Lib.hid ((HC.out.keep hap6.below).setB v6); have HB6 := Lib.hid (show Below p w1 (w6.setCell ⟨p + 1 + 1, 1, none⟩ v6) from (HBR.out.trans (hap6.below.mono (by omega))).setCell (by show p ≤ p + 1 + 1; omega) v6); obtain ⟨a6, c6, rfl⟩ := own_shape3 hown6)
          go_roundw
          case measure => simp [intOf]; omega
          case rel => unfold SpRelV; exact ⟨v + 1, la, lb ++ [(v : Int)], _, _, by omega, by omega, by go_num, HR6.out, HC6.out, HB6.out, by simp; omega, (HI.out.putB (by omega) : SpJ ((v : Int) + 1) _ _), by simp; omega⟩
    · have hv9 : v = mm + 1 := by omega
      subst hv9
      have hd : decide (((mm + 1 : Nat) : Int) ≤ (mm : Int)) = false := decide_eq_false (by omega)
      have hd0 : decide ((mm : Int) + 1 ≤ (mm : Int)) = false := decide_eq_false (by omega)
      have hd9 : decide (mm + 1 ≤ mm) = false := decide_eq_false (by omega)
      have zz := fun o => HC.out.keep ((Below.refl (p + 3) wr).alloc hsz o)
      have y0 := fun o => (zz o).1
      have y1 := fun o => (zz o).2.1
      have y2 := fun o => (zz o).2.2.1
      have y3 := fun o => (zz o).2.2.2.2.2.2.2.1 0
      have HBF := Lib.hid ((HB1.out.mono (show w.heap.size + 1 ≤ _ by simp)).trans (HBR.out.mono hs1))
      have xx := fun o => (HBX.out _ (HBF.out.alloc (by omega) o)).2
      have x0 := fun o => (xx o).1
      have x1 := fun o => (xx o).2.1
      have x2 := fun o => (xx o).2.2.1
      have x3 := fun o => (xx o).2.2.2 0
      have x4 := fun o => (xx o).2.2.2 1
      have x5 := fun o => (xx o).2.2.2 2
      have hne : ¬ w.heap.size = p := by omega
      have hne' : ¬ p = w.heap.size := by omega
      clear zz xx
      go_wp2_with fail
      obtain ⟨g1, g2, g3, g4⟩ := form_endV (ex := false) (ey := true) hp hs1 (by simpa using HCX.out.1) HBR.out HR.out hsz (HBX.out _ HBF.out).2.1 (HBX.out _ HBF.out).2.2.1 (HBX.out _ HBF.out).2.2.2.1
      obtain ⟨ac, cc, e9, g5⟩ := g2.rows
      injection e9 with e1 _ e3
      subst e1; subst e3
      exact bodyPost_ret (v := .agg #[.slice (some ⟨wr.heap.size, 0, none⟩) 2 2, .int .i64 (mm : Int), .slice a9 xss.length c9]) (form_ret _ w.heap.size _ _ _ _ rfl g3) rfl ⟨⟨_, 2, la, lb, a9, c9, xss, rfl, g1, g5, by simpa using HI.out, by omega, HCX.out.2.1, HCX.out.2.2.1, HCX.out.2.2.2⟩, HBW.out.trans (g4.mono (Nat.le_refl _))⟩

end Go.Proofs.YtjpchjbpolcndaaDoor

namespace Go.Proofs.YtjpchjbpolcndaaDoor
open Go.RowKit

set_option maxHeartbeats 1000000 in
theorem sameBools_yes (v u : Value) (xs : List Bool) (w : World) (hv : BoolRow w v xs) (hu : BoolRow w u xs) :
    Calls Tryd.prog 21 #[v, u] w fun e w' => e = .returned (.bool true) ∧ ∃ n, w' = w.drewN n := by
  obtain ⟨a, c, rfl, hxc, hcm, hx⟩ := hv
  obtain ⟨a', c', rfl, hyc, hcm', hy⟩ := hu
  unfold maxLen at hcm hcm'
  by_cases h0 : xs.length = 0
  · have hxe : xs = [] := List.eq_nil_of_length_eq_zero h0
    subst hxe
    clear hx hy h0
    go_enter Tryd.func21, Tryd.ntmps21
    go_wp2_with fail
    refine wp_loop_rounds 1 ?_
    rw [rounds_succ]
    go_wp2_with fail
    go_ret
    exact ⟨rfl, 0, rfl⟩
  · obtain ⟨b, off, rfl, hb, hx⟩ := hx.resolve_left h0
    obtain ⟨b', off', rfl, hb', hy⟩ := hy.resolve_left h0
    have HX := Lib.hid hx; clear hx
    have HY := Lib.hid hy; clear hy
    generalize hn : xs.length = n at *
    clear hn
    have hne : ((n : Int) != (n : Int)) = false := by simp
    go_enter Tryd.func21, Tryd.ntmps21
    go_wp2_with fail
    go_loopw [5, 6] (fun i _ wr => ∃ k q : Nat, k ≤ n ∧ i = .int .i64 k ∧ wr = w.drewN q) (fun i _ _ => n - (intOf i).toNat)
    case atStart => exact ⟨0, 0, Nat.zero_le _, rfl, rfl⟩
    case round =>
      obtain ⟨k, q, hk, rfl, rfl⟩ := hrel
      by_cases hlt : k < n
      · have g1 : w.cell? ⟨b, off + k, none⟩ = some (Value.bool (xs.getD k false)) := HX.out k hlt
        have g2 : w.cell? ⟨b', off' + k, none⟩ = some (Value.bool (xs.getD k false)) := HY.out k hlt
        generalize xs.getD k false = x at g1 g2
        have heb : (x == x) = true := by simp
        go_wp2_with fail
        go_quiet (fail)
        go_wp2_with fail
        go_roundw
        case rel => exact ⟨k + 1, _, by omega, by go_num, rfl⟩
        case measure => simp [intOf]; omega
      · have hkn : k = n := by omega
        subst hkn
        go_wp2_with fail
        go_ret
        exact ⟨rfl, _, rfl⟩

theorem game_ret (W : World) (q : Nat) (v0 v1 v2 v3 : Value) (tmps : Array Value) (ht : tmps.getD 2 undef = .pointer (some ⟨q, 0, none⟩)) (h : W.cell? ⟨q, 0, none⟩ = some v0 ∧ W.cell? ⟨q, 1, none⟩ = some v1 ∧ W.cell? ⟨q, 2, none⟩ = some v2 ∧ W.cell? ⟨q, 3, none⟩ = some v3) :
    (results Tryd.f11 tmps).run Tryd.prog W = .ok (.agg #[v0, v1, v2, v3]) W := by
  obtain ⟨h0, h1, h2, h3⟩ := h
  rw [Array.getD_eq_getD_getElem?] at ht
  simp [results, Tryd.results11, go_sem, ht, h0, h1, h2, h3]

set_option maxRecDepth 8000 in
set_option maxHeartbeats 1000000 in
theorem game_any (ex ey : Bool) (q : Option Addr) (d : Nat) (la lb : List Int) (mm : Int) (ac : Option Addr) (n cc : Nat) (w : World) (h : BRowsAt w q d [(ex, la), (ey, lb)]) :
    Calls Tryd.prog 11 #[.agg #[.slice q 2 d, .int .i64 mm, .slice ac n cc]] w fun e w' => (∃ va vb, e = .returned (.agg #[.bool ex, va, vb, .slice ac n cc]) ∧ Row w' va la ∧ Row w' vb lb) ∧ Below w.heap.size w w' := by
  obtain ⟨hd2, hdm, h3⟩ := h
  have h2 : 2 ≤ d := hd2
  unfold maxLen at hdm
  rcases h3 with h3 | ⟨b, off, rfl, hlt, hc⟩
  · simp at h3
  obtain ⟨c0, va, c1, ra⟩ := hc 0 (by simp)
  obtain ⟨c2, vb, c3, rb⟩ := hc 1 (by simp)
  simp only [List.getD_cons_zero, List.getD_cons_succ, Nat.zero_mul, Nat.one_mul, Nat.add_zero] at c0 c1 c2 c3 ra rb
  have HRA := Lib.hid (fun W (hW : Below w.heap.size w W) => And.intro (ra.keep hW) (rb.keep hW))
  obtain ⟨aa, ca, rfl, _⟩ := ra
  obtain ⟨ab, cb, rfl, _⟩ := rb
  clear hc hd2
  generalize la.length = na at *
  generalize lb.length = nb at *
  have HKP : Hid (∀ W, Below (w.heap.size + 1) (w.alloc (.cells #[.slice (some ⟨b, off, none⟩) 2 d, .int .i64 mm, .slice ac n cc] 32)) W → (W.cell? ⟨w.heap.size, 0, none⟩ = some (.slice (some ⟨b, off, none⟩) 2 d) ∧ W.cell? ⟨w.heap.size, 2, none⟩ = some (.slice ac n cc) ∧ W.cell? ⟨b, off, none⟩ = some (.bool ex) ∧ W.cell? ⟨b, off + 1, none⟩ = some (.slice aa na ca) ∧ W.cell? ⟨b, off + 2 + 1, none⟩ = some (.slice ab nb cb)) ∧ Below w.heap.size w W) := fun W h0 => by
    have h : Below (w.alloc (.cells #[.slice (some ⟨b, off, none⟩) 2 d, .int .i64 mm, .slice ac n cc] 32)).heap.size (w.alloc (.cells #[.slice (some ⟨b, off, none⟩) 2 d, .int .i64 mm, .slice ac n cc] 32)) W := by simpa using h0
    obtain ⟨h1, h2, h3⟩ := cells3 w W _ _ _ _ h
    have hw : Below w.heap.size w W := ((Below.refl _ w).alloc (Nat.le_refl _) _).trans (h.mono (by simp))
    exact ⟨⟨h1, h3, (hw.cell (p := ⟨b, off, none⟩) hlt).trans c0, (hw.cell (p := ⟨b, off + 1, none⟩) hlt).trans c1, (hw.cell (p := ⟨b, off + 2 + 1, none⟩) hlt).trans c3⟩, hw⟩
  clear c0 c1 c2 c3
  have HBW := Lib.hid (Below.refl (w.heap.size + 1) (w.alloc (.cells #[.slice (some ⟨b, off, none⟩) 2 d, .int .i64 mm, .slice ac n cc] 32)))
  go_enter Tryd.func11, Tryd.ntmps11
  go_wp2_with fail
  go_region_held3 (fun W => W.cell? ⟨w.heap.size, 0, none⟩ = some (.slice (some ⟨b, off, none⟩) 2 d) ∧ W.cell? ⟨w.heap.size, 2, none⟩ = some (.slice ac n cc) ∧ W.cell? ⟨b, off, none⟩ = some (.bool ex) ∧ W.cell? ⟨b, off + 1, none⟩ = some (.slice aa na ca) ∧ W.cell? ⟨b, off + 2 + 1, none⟩ = some (.slice ab nb cb)) (first | exact (HKP.out _ HBW.out).1 | exact (HKP.out _ (HBW.out.alloc (by simp) _)).1 | exact (HKP.out _ (HBW.out.alloc (by simp) _).drew).1 | exact (HKP.out _ ((HBW.out.alloc (by simp) _).drew.alloc (by simp) _)).1 | exact (HKP.out _ (((HBW.out.alloc (by simp) _).drew.alloc (by simp) _).drew)).1) (fail)
  all_goals go_wp2_with fail
  have hA : Below (w.heap.size + 1 + 1) ((w.alloc (.cells #[.slice (some ⟨b, off, none⟩) 2 d, .int .i64 mm, .slice ac n cc] 32)).alloc (.cells #[.bool ex, .slice aa na ca, .slice ab nb cb, .slice ac n cc] 26)) ((((w.alloc (.cells #[.slice (some ⟨b, off, none⟩) 2 d, .int .i64 mm, .slice ac n cc] 32)).alloc (.cells #[.bool ex, .slice aa na ca, .slice ab nb cb, .slice ac n cc] 26)).alloc (.cells #[.bool ex, .slice aa na ca, .slice ab nb cb, .slice ac n cc] 26)).drew) := ((Below.refl _ _).alloc (by simp) _).drew
  have hB := (cells4 (w.alloc (.cells #[.slice (some ⟨b, off, none⟩) 2 d, .int .i64 mm, .slice ac n cc] 32)) _ _ _ _ _ 26 (by simpa using hA)).1
  have hW : Below w.heap.size w ((((w.alloc (.cells #[.slice (some ⟨b, off, none⟩) 2 d, .int .i64 mm, .slice ac n cc] 32)).alloc (.cells #[.bool ex, .slice aa na ca, .slice ab nb cb, .slice ac n cc] 26)).alloc (.cells #[.bool ex, .slice aa na ca, .slice ab nb cb, .slice ac n cc] 26)).drew) := ((((Below.refl _ w).alloc (Nat.le_refl _) _).alloc (by simp) _).alloc (by simp; omega) _).drew
  exact bodyPost_ret (v := .agg #[.bool ex, .slice aa na ca, .slice ab nb cb, .slice ac n cc]) (game_ret _ (w.heap.size + 1) _ _ _ _ _ rfl (by simpa using hB)) rfl ⟨⟨_, _, rfl, (HRA.out _ hW).1, (HRA.out _ hW).2⟩, hW⟩
end Go.Proofs.YtjpchjbpolcndaaDoor

namespace Go.Proofs.YtjpchjbpolcndaaDoor
open Go.RowKit

theorem posOf_none {xs : List Int} {y : Int} (h : ∀ j, j < xs.length → xs.getD j 0 ≠ y) : posOf xs y = 0 := by
  unfold posOf
  rw [if_neg]
  intro hm
  obtain ⟨j, hj, e⟩ := List.getElem_of_mem hm
  exact h j hj (by simpa [List.getD, hj] using e)
theorem posOf_at : ∀ {xs : List Int} {k : Nat} {y : Int}, k < xs.length → (∀ j, j < k → xs.getD j 0 ≠ y) → xs.getD k 0 = y → posOf xs y = k + 1
  | [], k, y, hk, _, _ => by simp at hk
  | x :: xs, 0, y, _, _, h => by
    have h' : x = y := by simpa [List.getD] using h
    subst h'
    unfold posOf
    rw [if_pos (by simp), List.idxOf_cons_self]
  | x :: xs, k + 1, y, hk, h0, h => by
    have hx : x ≠ y := by have := h0 0 (by omega); simpa [List.getD] using this
    have ih := posOf_at (xs := xs) (k := k) (y := y) (by simpa using hk) (fun j hj => by have := h0 (j + 1) (by omega); simpa [List.getD] using this) (by simpa [List.getD] using h)
    unfold posOf at ih ⊢
    by_cases hm : y ∈ xs
    · rw [if_pos hm] at ih
      rw [if_pos (by simp [hm]), show (x :: xs).idxOf y = xs.idxOf y + 1 by rw [List.idxOf_cons, show (x == y) = false by simp [hx]]; rfl]
      omega
    · rw [if_neg hm] at ih
      omega
theorem getD_app1 (a b : List Int) (i : Nat) (h : i < a.length) : (a ++ b).getD i 0 = a.getD i 0 := by simp [List.getD, List.getElem?_append_left h]
theorem getD_app2 (a b : List Int) (i : Nat) : (a ++ b).getD (a.length + i) 0 = b.getD i 0 := by simp [List.getD, List.getElem?_append_right]

set_option maxRecDepth 8000 in
set_option maxHeartbeats 2000000 in
theorem place_any (ex : Bool) (vo vi vc : Value) (ol il : List Int) (y : Int) (w : World) (ho : Row w vo ol) (hi : Row w vi il) (hc : ∃ a m c, vc = .slice a m c) (hno : ol.length ≤ 1000000) (hni : il.length ≤ 1000000) :
    Calls Tryd.prog 68 #[.agg #[.bool ex, vo, vi, vc], .int .i64 y] w fun e w' => e = .returned (.int .i64 (posOf (ol ++ il) y : Int)) ∧ Below w.heap.size w w' := by
  obtain ⟨ac, mc, cc, rfl⟩ := hc
  obtain ⟨ao, co, rfl, hor⟩ := ho
  obtain ⟨ai, ci, rfl, hir⟩ := hi
  have HO := Lib.hid hor
  have HI := Lib.hid hir
  clear hor hir
  have HA := Lib.hid (fun o => show Below w.heap.size w (w.alloc o) from (Below.refl _ w).alloc (Nat.le_refl _) _)
  have H1 : Hid (∀ k, k < ol.length → (∀ j, j < k → ol.getD j 0 ≠ y) → ol.getD k 0 = y → posOf (ol ++ il) y = k + 1) := fun k hk h0 h =>
    posOf_at (by rw [List.length_append]; omega) (fun j hj => by rw [getD_app1 _ _ _ (by omega)]; exact h0 j hj) (by rw [getD_app1 _ _ _ hk]; exact h)
  have H2 : Hid (∀ k, k < il.length → (∀ j, j < ol.length → ol.getD j 0 ≠ y) → (∀ j, j < k → il.getD j 0 ≠ y) → il.getD k 0 = y → posOf (ol ++ il) y = ol.length + k + 1) := fun k hk h00 h0 h =>
    posOf_at (by rw [List.length_append]; omega) (fun j hj => by
      by_cases hj2 : j < ol.length
      · rw [getD_app1 _ _ _ hj2]; exact h00 j hj2
      · obtain ⟨i, rfl⟩ : ∃ i, j = ol.length + i := ⟨j - ol.length, by omega⟩
        rw [getD_app2]; exact h0 i (by omega)) (by rw [getD_app2]; exact h)
  have H3 : Hid ((∀ j, j < ol.length → ol.getD j 0 ≠ y) → (∀ j, j < il.length → il.getD j 0 ≠ y) → posOf (ol ++ il) y = 0) := fun h00 h0 =>
    posOf_none fun j hj => by
      rw [List.length_append] at hj
      by_cases hj2 : j < ol.length
      · rw [getD_app1 _ _ _ hj2]; exact h00 j hj2
      · obtain ⟨i, rfl⟩ : ∃ i, j = ol.length + i := ⟨j - ol.length, by omega⟩
        rw [getD_app2]; exact h0 i (by omega)
  generalize posOf (ol ++ il) y = r at *
  generalize hNO : ol.length = no at *
  generalize hNI : il.length = ni at *
  have HNN := Lib.hid (And.intro hNO hNI)
  clear hNO hNI
  have HXC : Hid (∀ i, i < no → ∀ o, ∃ b off, ao = some ⟨b, off, none⟩ ∧ (w.alloc o).cell? ⟨b, off + i, none⟩ = some (.int .i64 (ol.getD i 0))) := fun i hi o => by
    obtain ⟨h1, h2, h3⟩ := HO.out
    rw [HNN.out.1] at h3
    obtain ⟨b, off, e, hb, hc⟩ := h3.resolve_left (by omega)
    exact ⟨b, off, e, ((HA.out o).cell (p := ⟨b, off + i, none⟩) hb).trans (hc i hi)⟩
  have HXI : Hid (∀ i, i < ni → ∀ o, ∃ b off, ai = some ⟨b, off, none⟩ ∧ (w.alloc o).cell? ⟨b, off + i, none⟩ = some (.int .i64 (il.getD i 0))) := fun i hi o => by
    obtain ⟨h1, h2, h3⟩ := HI.out
    rw [HNN.out.2] at h3
    obtain ⟨b, off, e, hb, hc⟩ := h3.resolve_left (by omega)
    exact ⟨b, off, e, ((HA.out o).cell (p := ⟨b, off + i, none⟩) hb).trans (hc i hi)⟩
  have hb1 := HO.out.2.1
  have hb2 := HI.out.2.1
  have hb3 := HO.out.1
  have hb4 := HI.out.1
  rw [HNN.out.1] at hb3
  rw [HNN.out.2] at hb4
  unfold maxLen at hb1 hb2
  clear HO HI
  go_enter Tryd.func68, Tryd.ntmps68
  go_wp2_with fail
  go_loop [5] (fun i => ∃ k : Nat, k ≤ no ∧ i = .int .i64 k ∧ Hid (∀ j, j < k → ol.getD j 0 ≠ y)) (fun i => no - (intOf i).toNat)
  case atStart => exact ⟨0, Nat.zero_le _, rfl, fun j hj => absurd hj (Nat.not_lt_zero _)⟩
  case round =>
    obtain ⟨k, hk, rfl, HQ⟩ := hrel
    by_cases hlt : k < no
    · obtain ⟨b, off, rfl, g1⟩ := HXC.out k hlt (.cells #[.bool ex, .slice ao no co, .slice ai ni ci, .slice ac mc cc] 26)
      have HK := Lib.hid (H1.out k hlt HQ.out)
      have HQ1 : Hid (ol.getD k 0 ≠ y → ∀ j, j < k + 1 → ol.getD j 0 ≠ y) := fun h j hj => by
        by_cases e : j = k
        · subst e; exact h
        · exact HQ.out j (by omega)
      generalize ol.getD k 0 = x at *
      cases hxy : (x == y) with
      | true =>
        have HR := Lib.hid (HK.out (by simpa using hxy))
        clear HK HQ1
        go_wp2_with fail
        go_ret
        exact ⟨ret_int (by rw [HR.out]; simp), HA.out _⟩
      | false =>
        have HQ2 := Lib.hid (HQ1.out (by simpa using hxy))
        clear HK HQ1
        go_wp2_with fail
        go_round
        case rel => exact ⟨k + 1, by omega, by go_num, HQ2.out⟩
        case measure => simp [intOf]; omega
    · have hkn : k = no := by omega
      subst hkn
      clear hlt
      go_wp2_with fail
      go_loop [6] (fun i => ∃ k2 : Nat, k2 ≤ ni ∧ i = .int .i64 k2 ∧ Hid (∀ j, j < k2 → il.getD j 0 ≠ y)) (fun i => ni - (intOf i).toNat)
      case atStart => exact ⟨0, Nat.zero_le _, rfl, fun j hj => absurd hj (Nat.not_lt_zero _)⟩
      case round =>
        obtain ⟨k2, hk2, rfl, HQ2⟩ := hrel
        by_cases hlt : k2 < ni
        · obtain ⟨b, off, rfl, g1⟩ := HXI.out k2 hlt (.cells #[.bool ex, .slice ao k co, .slice ai ni ci, .slice ac mc cc] 26)
          have HK := Lib.hid (H2.out k2 hlt HQ.out HQ2.out)
          have HQ1 : Hid (il.getD k2 0 ≠ y → ∀ j, j < k2 + 1 → il.getD j 0 ≠ y) := fun h j hj => by
            by_cases e : j = k2
            · subst e; exact h
            · exact HQ2.out j (by omega)
          generalize il.getD k2 0 = x at *
          cases hxy : (x == y) with
          | true =>
            have HR := Lib.hid (HK.out (by simpa using hxy))
            clear HK HQ1
            go_wp2_with fail
            go_ret
            exact ⟨ret_int (by rw [HR.out]; simp), HA.out _⟩
          | false =>
            have HQ3 := Lib.hid (HQ1.out (by simpa using hxy))
            clear HK HQ1
            go_wp2_with fail
            go_round
            case rel => exact ⟨k2 + 1, by omega, by go_num, HQ3.out⟩
            case measure => simp [intOf]; omega
        · have hkn2 : k2 = ni := by omega
          subst hkn2
          have HR := Lib.hid (H3.out HQ.out HQ2.out)
          clear hlt H1 H2 H3
          go_wp2_with fail
          go_ret
          exact ⟨ret_int (by rw [HR.out]; rfl), HA.out _⟩
end Go.Proofs.YtjpchjbpolcndaaDoor

namespace Go.Proofs.YtjpchjbpolcndaaDoor
open Go.RowKit

theorem okP_no {xs : List Int} {l : Int} (h : okP xs l = false) : l = 0 ∨ posOf xs (absI l) = 0 := by
  have h1 := of_decide_eq_false h
  by_cases h0 : l = 0
  · exact .inl h0
  · refine .inr ?_
    unfold posOf
    rw [if_neg fun hm => h1 ⟨hm, fun e => h0 (by unfold absI at e; split at e <;> omega)⟩]
theorem okP_yes {xs : List Int} {l : Int} (h : okP xs l = true) : l ≠ 0 ∧ 1 ≤ posOf xs (absI l) := by
  have h1 := of_decide_eq_true h
  refine ⟨fun e => h1.2 (by subst e; simp [absI]), ?_⟩
  unfold posOf
  rw [if_pos h1.1]
  omega
theorem posOf_le (xs : List Int) (y : Int) : posOf xs y ≤ xs.length := by
  unfold posOf
  split
  · have := List.idxOf_lt_length_of_mem (by assumption : y ∈ xs); omega
  · omega

set_option maxRecDepth 8000 in
set_option maxHeartbeats 4000000 in
theorem refMatrix_any (ex : Bool) (vo vi : Value) (ol il : List Int) (a : Option Addr) (c : Nat) (xss : List (List Int)) (w : World) (ho : Row w vo ol) (hi : Row w vi il) (hr : RowsAt w a c xss) (hno : ol.length ≤ 100000) (hni : il.length ≤ 100000)
    (hint : ∀ xs ∈ xss, ∀ l ∈ xs, -9223372036854775807 ≤ l ∧ l ≤ 9223372036854775807) (hlen : ∀ xs ∈ xss, xs.length ≤ 1000000) (hm : xss.length ≤ 1000000) :
    Calls Tryd.prog 43 #[.agg #[.bool ex, vo, vi, .slice a xss.length c]] w fun e w' => (∃ u, e = .returned (.tuple #[u, .bool (okM (ol ++ il) xss)]) ∧ (okM (ol ++ il) xss = false → u = .slice none 0 0) ∧ (okM (ol ++ il) xss = true → CRow w' w.heap.size u (renM (ol ++ il) xss))) ∧ Below w.heap.size w w' := by
  have HPL := Lib.hid (fun y W (hW : Below w.heap.size w W) => place_any ex vo vi (.slice a xss.length c) ol il y W (ho.keep hW) (hi.keep hW) ⟨_, _, _, rfl⟩ (by omega) (by omega))
  have HPB : Hid (∀ y, posOf (ol ++ il) y ≤ 200000) := fun y => by have := posOf_le (ol ++ il) y; rw [List.length_append] at this; show _ ≤ _; omega
  have HCX : Hid (∀ W, Below (w.heap.size + 1) (w.alloc (.cells #[.bool ex, vo, vi, .slice a xss.length c] 26)) W → (W.cell? ⟨w.heap.size, 0, none⟩ = some (.bool ex) ∧ W.cell? ⟨w.heap.size, 1, none⟩ = some vo ∧ W.cell? ⟨w.heap.size, 2, none⟩ = some vi ∧ W.cell? ⟨w.heap.size, 3, none⟩ = some (.slice a xss.length c)) ∧ Below w.heap.size w W) := fun W h =>
    ⟨(cells4 w W _ _ _ _ 26 (by simpa using h)).1, ((Below.refl _ w).alloc (Nat.le_refl _) _).trans (h.mono (by omega))⟩
  obtain ⟨ao, co, rfl, _⟩ := ho
  obtain ⟨ai, ci, rfl, _⟩ := hi
  obtain ⟨hr1, hr2, hr3⟩ := hr
  unfold maxLen at hr2
  have HR3 := Lib.hid hr3; clear hr3
  have HIN : Hid (∀ k, k < xss.length → ∀ j, j < (xss.getD k []).length → -9223372036854775807 ≤ (xss.getD k []).getD j 0 ∧ (xss.getD k []).getD j 0 ≤ 9223372036854775807) := fun k hk j hj => hint (xss.getD k []) (by simp [List.getD, hk]) _ (getD_memI _ j hj)
  have HLE : Hid (∀ k, k < xss.length → (xss.getD k []).length ≤ 1000000) := fun k hk => hlen _ (by simp [List.getD, hk])
  have HNO : Hid (∀ k, k < xss.length → ∀ j, j < (xss.getD k []).length → okP (ol ++ il) ((xss.getD k []).getD j 0) = false → okM (ol ++ il) xss = false) := fun k hk j hj h => by
    unfold okM
    rw [List.all_eq_false]
    refine ⟨xss.getD k [], by simp [List.getD, hk], ?_⟩
    have : ((xss.getD k []).all (okP (ol ++ il))) = false := by
      rw [List.all_eq_false]
      exact ⟨(xss.getD k []).getD j 0, getD_memI _ j hj, by rw [h]; simp⟩
    rw [this]; simp
  have HYES : Hid ((∀ k, k < xss.length → ∀ j, j < (xss.getD k []).length → okP (ol ++ il) ((xss.getD k []).getD j 0) = true) → okM (ol ++ il) xss = true) := fun h => by
    unfold okM
    rw [List.all_eq_true]
    intro l hl
    obtain ⟨k, hk, rfl⟩ := List.getElem_of_mem hl
    rw [List.all_eq_true]
    intro y hy
    obtain ⟨j, hj, rfl⟩ := List.getElem_of_mem hy
    have := h k hk j (by simpa [List.getD, hk] using hj)
    simpa [List.getD, hk, hj] using this
  have HTK : Hid (∀ k, k < xss.length → renM (ol ++ il) (xss.take (k + 1)) = renM (ol ++ il) (xss.take k) ++ [(xss.getD k []).map (renP (ol ++ il))]) := fun k hk => by
    unfold renM
    rw [List.take_succ_eq_append_getElem hk, List.map_append]
    simp [List.getD, hk]
  have HTE : Hid (renM (ol ++ il) (xss.take xss.length) = renM (ol ++ il) xss) := by rw [List.take_length]; rfl
  have HLL : Hid (∀ k, k ≤ xss.length → (renM (ol ++ il) (xss.take k)).length = k) := fun k hk => by
    unfold renM
    rw [List.length_map, List.length_take]; omega
  clear hint hlen hno hni
  generalize hxs : ol ++ il = xs at *
  clear hxs
  generalize okM xs xss = al at *
  generalize hM : xss.length = m at *
  have HM := Lib.hid hM; clear hM
  generalize ol.length = no at *
  generalize il.length = ni at *
  go_enter Tryd.func43, Tryd.ntmps43
  go_wp2_with fail
  have hsA : (w.alloc (.cells #[.bool ex, .slice ao no co, .slice ai ni ci, .slice a m c] 26)).heap.size = w.heap.size + 1 := by simp
  generalize w.alloc (.cells #[.bool ex, .slice ao no co, .slice ai ni ci, .slice a m c] 26) = wA at *
  go_loopw [4, 5, 6, 7, 8, 9] (fun o i _ _ _ _ wr => ∃ (k : Nat) (vs : List Value), k ≤ m ∧ i = .int .i64 k ∧ ClG wr (w.heap.size + 1) o (.slice none 0 0) vs (renM xs (xss.take k)) [] ∧ Below (w.heap.size + 1) wA wr ∧ Hid (∀ k', k' < k → ∀ j, j < (xss.getD k' []).length → okP xs ((xss.getD k' []).getD j 0) = true)) (fun _ i _ _ _ _ _ => m - (intOf i).toNat)
  case atStart => exact ⟨0, [], Nat.zero_le _, rfl, ClG.start _ _, Below.refl _ _, fun j hj => absurd hj (Nat.not_lt_zero _)⟩
  case round =>
    obtain ⟨k, vs, hk, rfl, hcl, hbr, HOKS⟩ := hrel
    obtain ⟨⟨c0, c1, c2, c3⟩, hbw⟩ := HCX.out wr hbr
    by_cases hlt : k < m
    · obtain ⟨rb, ro, ha, hrb, hrc⟩ := HR3.out.resolve_left (by omega)
      subst ha
      obtain ⟨v, f1, hvr⟩ := hrc k hlt
      have HVC : Hid (∀ W, Below w.heap.size w W → W.cell? ⟨rb, ro + k, none⟩ = some v) := fun W hW => (hW.cell (p := ⟨rb, ro + k, none⟩) hrb).trans f1
      have HINK := Lib.hid (HIN.out k hlt)
      have HLEK := HLE.out k hlt
      have HNOK := Lib.hid (HNO.out k hlt)
      have HTKK := Lib.hid (HTK.out k hlt)
      have hdl := HLL.out k hk
      have HOK1 : Hid ((∀ j, j < (xss.getD k []).length → okP xs ((xss.getD k []).getD j 0) = true) → ∀ k', k' < k + 1 → ∀ j, j < (xss.getD k' []).length → okP xs ((xss.getD k' []).getD j 0) = true) := fun h k' hk' => by
        by_cases e : k' = k
        · subst e; exact h
        · exact HOKS.out k' (by omega)
      clear f1 hrc
      generalize xss.getD k [] = cs at *
      have HCT := Lib.hid (fun j (hj : j < cs.length) => take_snoc cs j hj)
      have HCE : Hid (cs.take cs.length = cs) := List.take_length
      obtain ⟨av, cv, rfl, hv1, hv2, hv3⟩ := hvr
      unfold maxLen at hv2
      have HV3 := Lib.hid hv3; clear hv3
      obtain ⟨ao', co', hq⟩ := own_shape3 hcl.out
      rw [hdl] at hq
      subst hq
      have HDL := Lib.hid hdl; clear hdl
      generalize hcn : cs.length = n at *
      have HCN := Lib.hid hcn; clear hcn
      have f1 := HVC.out wr hbw
      have hbs0 := hbr.size
      go_wp2_with fail
      go_loopw [6, 7, 8, 9] (fun cv' j _ _ wr2 => ∃ (q : Nat) (cur : List Int), q ≤ n ∧ j = .int .i64 q ∧ ClG wr2 (w.heap.size + 1) (.slice ao' k co') cv' vs (renM xs (xss.take k)) cur ∧ Hid (cur = (cs.take q).map (renP xs)) ∧ Below (w.heap.size + 1) wA wr2 ∧ Hid (∀ j, j < q → okP xs (cs.getD j 0) = true)) (fun _ j _ _ _ => n - (intOf j).toNat)
      case atStart => exact ⟨0, [], Nat.zero_le _, rfl, hcl, by simp [Hid], hbr, fun j hj => absurd hj (Nat.not_lt_zero _)⟩
      case round =>
        obtain ⟨q, cur, hq, rfl, hcl2, HCUR, hbr2, HQ⟩ := hrel
        obtain ⟨⟨d0, d1, d2, d3⟩, hbw2⟩ := HCX.out wr hbr2
        have f2 := HVC.out wr hbw2
        have hbs2 := hbr2.size
        clear c0 c1 c2 c3 f1 hcl hbr hbw
        have HBW2 := Lib.hid hbw2
        have HBR2 := Lib.hid hbr2
        have HCL2 := Lib.hid hcl2
        obtain ⟨ac2, cc2, rfl⟩ := own_shape3 hcl2.row
        by_cases hqn : q < n
        · obtain ⟨vb, vo, hva, hvb, hvc⟩ := HV3.out.resolve_left (by omega)
          subst hva
          have f3 := (hbw2.cell (p := ⟨vb, vo + q, none⟩) hvb).trans (hvc q hqn)
          obtain ⟨b1, b2⟩ := HINK.out q hqn
          have HNQ := Lib.hid (HNOK.out q hqn)
          have HCTQ := Lib.hid (HCT.out q hqn)
          have HQ1 : Hid (okP xs (cs.getD q 0) = true → ∀ j, j < q + 1 → okP xs (cs.getD j 0) = true) := fun h j hj => by
            by_cases e : j = q
            · subst e; exact h
            · exact HQ.out j (by omega)
          clear hvc hcl2 hbr2 hbw2
          generalize cs.getD q 0 = l at *
          have HPLL := Lib.hid (HPL.out (absI l))
          have HAB := Lib.hid (fun W => abs_any l W b1 b2)
          have hpb := HPB.out (absI l)
          have HREN : Hid (renP xs l = if l < 0 then -(posOf xs (absI l) : Int) else posOf xs (absI l)) := rfl
          have HON := Lib.hid (@okP_no xs l)
          have HOY := Lib.hid (@okP_yes xs l)
          generalize posOf xs (absI l) = p at *
          generalize absI l = y at *
          cases hok : okP xs l with
          | false =>
            have HALF := Lib.hid (HNQ.out hok)
            by_cases hl0 : l = 0
            · subst hl0
              clear hok HON HOY HQ1
              go_wp2_with fail
              go_ret2
              refine ⟨⟨_, by first | (rw [HALF.out]; rfl) | rw [HALF.out], fun _ => rfl, fun h => ?_⟩, HBW2.out⟩
              rw [HALF.out] at h
              cases h
            · have hp0 : p = 0 := (HON.out hok).resolve_left hl0
              subst hp0
              have hz : (l == -l) = false := beq_eq_false_iff_ne.2 (by omega)
              clear hok HON HOY HQ1
              go_wp2_with fail
              go_region_held3 (fun W => W.cell? ⟨w.heap.size, 0, none⟩ = some (.bool ex) ∧ W.cell? ⟨w.heap.size, 1, none⟩ = some (.slice ao no co) ∧ W.cell? ⟨w.heap.size, 2, none⟩ = some (.slice ai ni ci) ∧ W.cell? ⟨w.heap.size, 3, none⟩ = some (.slice (some ⟨rb, ro, none⟩) m c)) (first | exact (HCX.out _ HBR2.out).1 | exact (HCX.out _ HBR2.out.drew).1 | exact (HCX.out _ (below_drewN HBR2.out _)).1 | exact (HCX.out _ hb4).1) (first
                | (go_at_call 61; refine (HAB.out _).mono ?_; rintro e w' ⟨rfl, rfl⟩)
                | (go_at_call 68; refine (HPLL.out _ (by first | exact HBW2.out.drew | exact HBW2.out)).mono ?_; rintro e w4 ⟨rfl, hw4⟩; have hb4 := HBR2.out.drew.trans (hw4.mono (by rw [hsA] at hbs2; simpa using hbs2))))
              all_goals go_wp2_with fail
              all_goals go_ret2
              all_goals refine ⟨⟨_, by first | (rw [HALF.out]; rfl) | rw [HALF.out], fun _ => rfl, fun h => ?_⟩, (HCX.out _ hb4).2⟩
              all_goals rw [HALF.out] at h
              all_goals cases h
          | true =>
            obtain ⟨hl0, hp1⟩ := HOY.out hok
            have HQ2 := Lib.hid (HQ1.out hok)
            have hz : (l == -l) = false := beq_eq_false_iff_ne.2 (by omega)
            have hpz : ((p : Int) == 0) = false := beq_eq_false_iff_ne.2 (by omega)
            have hcl : cur.length ≤ 1000000 := by rw [HCUR.out, List.length_map, List.length_take]; omega
            clear hok HON HOY HQ1 HNQ
            by_cases hneg : l < 0
            · have hd1 : decide (l < 0) = true := decide_eq_true hneg
              have HCU2 : Hid (cur ++ [-(p : Int)] = (cs.take (q + 1)).map (renP xs)) := by
                unfold Hid
                rw [HCTQ.out, List.map_append, HCUR.out]
                simp only [List.map_cons, List.map_nil, HREN.out, if_pos hneg]
              clear HREN
              go_wp2_with fail
              go_region_held3 (fun W => W.cell? ⟨w.heap.size, 0, none⟩ = some (.bool ex) ∧ W.cell? ⟨w.heap.size, 1, none⟩ = some (.slice ao no co) ∧ W.cell? ⟨w.heap.size, 2, none⟩ = some (.slice ai ni ci) ∧ W.cell? ⟨w.heap.size, 3, none⟩ = some (.slice (some ⟨rb, ro, none⟩) m c)) (first | exact (HCX.out _ HBR2.out).1 | exact (HCX.out _ HBR2.out.drew).1 | exact (HCX.out _ (below_drewN HBR2.out _)).1 | exact (HCX.out _ hb4).1) (first
                | (go_at_call 61; refine (HAB.out _).mono ?_; rintro e w' ⟨rfl, rfl⟩)
                | (go_at_call 68; refine (HPLL.out _ (by first | exact HBW2.out.drew | exact HBW2.out)).mono ?_; rintro e w4 ⟨rfl, hw4⟩; have hb24 := (Below.refl _ _).drew.trans (hw4.mono (Nat.le_refl _)); have hb4 := HBR2.out.drew.trans (hw4.mono (by rw [hsA] at hbs2; simpa using hbs2))))
              have hcl4 := HCL2.out.keep hb24
              have hs4 := hb4.size
              go_wp2_with (at_builtin; refine wpList_app1 rfl _ _ rfl w4 (w.heap.size + 1) _ _ cur (-(p : Int)) hcl4.row (by omega) (by omega) rfl rfl ?_; intro o6 w6 hown6 hap6)
              go_roundw
              case rel => exact ⟨q + 1, cur ++ [-(p : Int)], by omega, by go_num, hcl4.add hap6 hown6, HCU2.out, hb4.trans hap6.below, HQ2.out⟩
              case measure => simp [intOf]; omega
            · have hd1 : decide (l < 0) = false := decide_eq_false hneg
              have HCU2 : Hid (cur ++ [(p : Int)] = (cs.take (q + 1)).map (renP xs)) := by
                unfold Hid
                rw [HCTQ.out, List.map_append, HCUR.out]
                simp only [List.map_cons, List.map_nil, HREN.out, if_neg hneg]
              clear HREN
              go_wp2_with fail
              go_region_held3 (fun W => W.cell? ⟨w.heap.size, 0, none⟩ = some (.bool ex) ∧ W.cell? ⟨w.heap.size, 1, none⟩ = some (.slice ao no co) ∧ W.cell? ⟨w.heap.size, 2, none⟩ = some (.slice ai ni ci) ∧ W.cell? ⟨w.heap.size, 3, none⟩ = some (.slice (some ⟨rb, ro, none⟩) m c)) (first | exact (HCX.out _ HBR2.out).1 | exact (HCX.out _ HBR2.out.drew).1 | exact (HCX.out _ (below_drewN HBR2.out _)).1 | exact (HCX.out _ hb4).1) (first
                | (go_at_call 61; refine (HAB.out _).mono ?_; rintro e w' ⟨rfl, rfl⟩)
                | (go_at_call 68; refine (HPLL.out _ (by first | exact HBW2.out.drew | exact HBW2.out)).mono ?_; rintro e w4 ⟨rfl, hw4⟩; have hb24 := (Below.refl _ _).drew.trans (hw4.mono (Nat.le_refl _)); have hb4 := HBR2.out.drew.trans (hw4.mono (by rw [hsA] at hbs2; simpa using hbs2))))
              have hcl4 := HCL2.out.keep hb24
              have hs4 := hb4.size
              go_wp2_with (at_builtin; refine wpList_app1 rfl _ _ rfl w4 (w.heap.size + 1) _ _ cur ((p : Int)) hcl4.row (by omega) (by omega) rfl rfl ?_; intro o6 w6 hown6 hap6)
              go_roundw
              case rel => exact ⟨q + 1, cur ++ [(p : Int)], by omega, by go_num, hcl4.add hap6 hown6, HCU2.out, hb4.trans hap6.below, HQ2.out⟩
              case measure => simp [intOf]; omega
        · have hqn2 : q = n := by omega
          subst hqn2
          have HOKK := Lib.hid (HOK1.out (fun j hj => HQ.out j (by omega)))
          have HCU3 : Hid (cur = cs.map (renP xs)) := by rw [HCUR.out, HCE.out]; rfl
          have HOUT := Lib.hid hcl2.out
          rw [HDL.out] at HOUT
          clear hcl2 hbr2 hbw2 HQ HOK1 HNOK
          generalize cur.length = nq at *
          go_wp2_with (at_builtin; refine wpList_appV 24 22 (.slice none 0 0) 24 Tryd.underlying24 infoInts rfl (by decide) rfl _ _ rfl wr (w.heap.size + 1) _ _ vs (.slice ac2 nq cc2) rfl HOUT.out (by omega) (by omega) _ rfl rfl rfl ?_; intro o7 w7 hown7 hap7)
          go_roundw
          case rel =>
            refine ⟨k + 1, vs ++ [.slice ac2 nq cc2], by omega, by go_num, ?_, HBR2.out.trans hap7.below, HOKK.out⟩
            rw [HTKK.out, ← HCU3.out]
            exact HCL2.out.push hap7 (by rw [HDL.out]; exact hown7)
          case measure => simp [intOf]; omega
    · have hkm : k = m := by omega
      subst hkm
      have HALT := Lib.hid (HYES.out HOKS.out)
      have HCR := Lib.hid (show CRow wr w.heap.size _ (renM xs (xss.take k)) from CRow.mono ⟨_, _, _, hcl⟩ (by omega))
      rw [HTE.out] at HCR
      have HBW := Lib.hid hbw
      obtain ⟨aq, nq, cq, rfl⟩ := slice_of hcl.out
      clear hcl hbr hbw HOKS HYES
      go_wp2_with fail
      go_ret2
      refine ⟨⟨_, by first | (rw [HALT.out]; rfl) | rw [HALT.out], fun h => ?_, fun _ => HCR.out⟩, HBW.out⟩
      rw [HALT.out] at h
      cases h
end Go.Proofs.YtjpchjbpolcndaaDoor

namespace Go.Proofs.YtjpchjbpolcndaaDoor
open Go.RowKit

theorem ref_inW {xs : List Int} {xss : List (List Int)} (hn : xs.length ≤ 1000000) (h : okM xs xss = true) : ∀ c ∈ renM xs xss, InW c := inW_plc hn (ren_right h)
theorem winsB_no {m : List (List Int)} {ex : Bool} {ov : List Bool} {ni i : Nat} (hi : i < 2 ^ ni) (h : ofL m (false :: (ov ++ bitsN i ni)) ≠ ex) : winsB m ex ov ni = false := by
  unfold winsB
  rw [List.all_eq_false]
  exact ⟨i, List.mem_range.2 hi, by simpa using h⟩
theorem winsB_yes {m : List (List Int)} {ex : Bool} {ov : List Bool} {ni : Nat} (h : ∀ i, i < 2 ^ ni → ofL m (false :: (ov ++ bitsN i ni)) = ex) : winsB m ex ov ni = true := by
  unfold winsB
  rw [List.all_eq_true]
  intro i hi
  simpa using h i (List.mem_range.1 hi)

set_option maxRecDepth 8000 in
set_option maxHeartbeats 2000000 in
theorem refWins_any (ex : Bool) (vo vi : Value) (ol il : List Int) (a : Option Addr) (c : Nat) (xss : List (List Int)) (kv : Value) (kn : List Bool) (w : World) (ho : Row w vo ol) (hi : Row w vi il) (hr : RowsAt w a c xss) (hk : BoolRow w kv kn)
    (hint : ∀ xs ∈ xss, ∀ l ∈ xs, -9223372036854775807 ≤ l ∧ l ≤ 9223372036854775807) (hlen : ∀ xs ∈ xss, xs.length ≤ 1000000) (hm : xss.length ≤ 1000000) (hok : okM (ol ++ il) xss = true) (hkn : kn.length ≤ 20) (hn : ol.length ≤ 20) (h20 : il.length ≤ 20) :
    Calls Tryd.prog 20 #[.agg #[.bool ex, vo, vi, .slice a xss.length c], kv] w fun e w' => e = .returned (.bool (winsB (renM (ol ++ il) xss) ex kn il.length)) ∧ Below w.heap.size w w' := by
  have HM := Lib.hid (fun W (hW : Below w.heap.size w W) => refMatrix_any ex vo vi ol il a c xss W (ho.keep hW) (hi.keep hW) (hr.keep hW) (by omega) (by omega) hint hlen hm)
  have HCX : Hid (∀ W, Below (w.alloc (.cells #[.bool ex, vo, vi, .slice a xss.length c] 26)).heap.size (w.alloc (.cells #[.bool ex, vo, vi, .slice a xss.length c] 26)) W → (W.cell? ⟨w.heap.size, 0, none⟩ = some (.bool ex) ∧ W.cell? ⟨w.heap.size, 1, none⟩ = some vo ∧ W.cell? ⟨w.heap.size, 2, none⟩ = some vi ∧ W.cell? ⟨w.heap.size, 3, none⟩ = some (.slice a xss.length c)) ∧ Below w.heap.size w W) := fun W h =>
    ⟨(cells4 w W _ _ _ _ 26 h).1, ((Below.refl _ w).alloc (Nat.le_refl _) _).trans (h.mono (by simp))⟩
  have HIW := Lib.hid (ref_inW (xs := ol ++ il) (by rw [List.length_append]; omega) hok)
  have HMO := Lib.hid (fun n W (hW : Below w.heap.size w W) => refModel_any kv kn n il.length W (RowG.keep hk hW) (by omega) (by omega))
  have HOF := Lib.hid (fun W am cm mv bs (h1 : RowsAt W am cm (renM (ol ++ il) xss)) (h2 : BoolRow W mv bs) => refOf_any am cm (renM (ol ++ il) xss) mv bs W h1 h2 HIW.out)
  have HNO := Lib.hid (fun i (hi : i < 2 ^ il.length) h => @winsB_no (renM (ol ++ il) xss) ex kn il.length i hi h)
  have HYES := Lib.hid (@winsB_yes (renM (ol ++ il) xss) ex kn il.length)
  obtain ⟨ao, co, rfl, _⟩ := ho
  obtain ⟨ai, ci, rfl, _⟩ := hi
  obtain ⟨ak, ck, rfl, _⟩ := hk
  clear hr hint hlen hm
  have HA := Lib.hid (fun o => show Below w.heap.size w (w.alloc o) from (Below.refl _ w).alloc (Nat.le_refl _) _)
  rw [hok] at HM
  clear hok
  have hpi := pow_wrap il.length h20
  have hpb := pow20 h20
  generalize winsB (renM (ol ++ il) xss) ex kn il.length = r at *
  generalize renM (ol ++ il) xss = ms at *
  generalize hT : 2 ^ il.length = T at *
  clear hT
  generalize ol.length = no at *
  generalize il.length = ni at *
  generalize xss.length = nx at *
  generalize kn.length = nk at *
  have hu64 : IntKind.u64.wrap (ni : Int) = (ni : Int) := by simp [IntKind.wrap, IntKind.bits, IntKind.signed]; omega
  go_enter Tryd.func20, Tryd.ntmps20
  go_wp2_with (go_at_call 43; refine (HM.out _ (HA.out _)).mono ?_; rintro e w1 ⟨⟨u, rfl, _, hu⟩, hb1⟩; obtain ⟨⟨g0, g1, g2, g3⟩, hbw1⟩ := HCX.out _ hb1; obtain ⟨au, cu, rfl, hru⟩ := (hu rfl).rows)
  have HRU := Lib.hid hru
  have HB1 := Lib.hid hb1
  have HBW1 := Lib.hid hbw1
  have hs1 := hb1.size
  have hgl := World.block_lt_of_cell? w1 _ g0
  simp only at hgl
  clear hu hru hb1 hbw1
  go_loopw [7] (fun i wr => ∃ k : Nat, k ≤ T ∧ i = .int .i64 k ∧ Below w1.heap.size w1 wr ∧ Hid (∀ j, j < k → ofL ms (false :: (kn ++ bitsN j ni)) = ex)) (fun i _ => T - (intOf i).toNat)
  case atStart => exact ⟨0, Nat.zero_le _, rfl, Below.refl _ _, fun j hj => absurd hj (Nat.not_lt_zero _)⟩
  case round =>
    obtain ⟨k, hk, rfl, hbr, HQ⟩ := hrel
    have HBR := Lib.hid hbr
    have HBRS := Lib.hid hbr.size
    have HBG : Hid (Below (w.alloc (.cells #[.bool ex, .slice ao no co, .slice ai ni ci, .slice a nx c] 26)).heap.size (w.alloc (.cells #[.bool ex, .slice ao no co, .slice ai ni ci, .slice a nx c] 26)) wr) := HB1.out.trans (hbr.mono hs1)
    obtain ⟨⟨c0, c1, c2, c3⟩, hbw⟩ := HCX.out wr HBG.out
    have HBW := Lib.hid hbw
    have hsw := hbw.size
    have hsg := HBG.out.size
    clear g0 g1 g2 g3 hbr hbw
    by_cases hlt : k < T
    · have HMK := Lib.hid (HMO.out k)
      have HNK := Lib.hid (HNO.out k hlt)
      have HQ1 : Hid (ofL ms (false :: (kn ++ bitsN k ni)) = ex → ∀ j, j < k + 1 → ofL ms (false :: (kn ++ bitsN j ni)) = ex) := fun h j hj => by
        by_cases e : j = k
        · subst e; exact h
        · exact HQ.out j (by omega)
      have HOK := Lib.hid (fun W mv (h1 : RowsAt W au cu ms) (h2 : BoolRow W mv (false :: (kn ++ bitsN k ni))) => HOF.out W au cu mv _ h1 h2)
      have HKP : Hid (∀ W, Below (w.alloc (.cells #[.bool ex, .slice ao no co, .slice ai ni ci, .slice a nx c] 26)).heap.size (w.alloc (.cells #[.bool ex, .slice ao no co, .slice ai ni ci, .slice a nx c] 26)) W → W.cell? ⟨w.heap.size, 0, none⟩ = some (.bool ex) ∧ W.cell? ⟨w.heap.size, 2, none⟩ = some (.slice ai ni ci)) := fun W h => ⟨(HCX.out W h).1.1, (HCX.out W h).1.2.2.1⟩
      generalize ofL ms (false :: (kn ++ bitsN k ni)) = t at *
      cases hte : (t != ex) with
      | true =>
        have hte2 : (t == ex) = false := by simpa using hte
        have HF := Lib.hid (HNK.out (by simpa using hte))
        clear HQ1 HNK
        go_wp2_with fail
        go_region_held3 (fun W => W.cell? ⟨w.heap.size, 0, none⟩ = some (.bool ex) ∧ W.cell? ⟨w.heap.size, 2, none⟩ = some (.slice ai ni ci)) (first | exact HKP.out _ HBG.out | exact HKP.out _ HBG.out.drew | exact HKP.out _ (below_drewN HBG.out _) | exact HKP.out _ hb3) (first
          | (go_at_call 51; refine (HMK.out _ (by first | exact HBW.out.drew | exact HBW.out)).mono ?_; rintro e w3 ⟨⟨v3, rfl, hv3⟩, hw3⟩; have HV3 := Lib.hid (show BoolRow _ _ _ from own_rowG hv3); obtain ⟨a3, c3', rfl⟩ := own_shape3 hv3; have hbr3 := HBR.out.drew.trans (hw3.mono (by simpa using HBRS.out)); have hb3 := HBG.out.drew.trans (hw3.mono (by simpa using hsg)); have HOO := Lib.hid (HOK.out _ _ (HRU.out.keep hbr3) HV3.out))
          | (go_at_call 25; refine HOO.out.mono ?_; rintro e w' ⟨rfl, rfl⟩))
        all_goals go_wp2_with fail
        all_goals go_ret
        all_goals exact ⟨ret_bool HF.out.symm, (HCX.out _ hb3).2⟩
      | false =>
        have hte2 : (t == ex) = true := by simpa using hte
        have HQ2 := Lib.hid (HQ1.out (by simpa using hte))
        clear HQ1 HNK
        go_wp2_with fail
        go_region_held3 (fun W => W.cell? ⟨w.heap.size, 0, none⟩ = some (.bool ex) ∧ W.cell? ⟨w.heap.size, 2, none⟩ = some (.slice ai ni ci)) (first | exact HKP.out _ HBG.out | exact HKP.out _ HBG.out.drew | exact HKP.out _ (below_drewN HBG.out _) | exact HKP.out _ hb3) (first
          | (go_at_call 51; refine (HMK.out _ (by first | exact HBW.out.drew | exact HBW.out)).mono ?_; rintro e w3 ⟨⟨v3, rfl, hv3⟩, hw3⟩; have HV3 := Lib.hid (show BoolRow _ _ _ from own_rowG hv3); obtain ⟨a3, c3', rfl⟩ := own_shape3 hv3; have hbr3 := HBR.out.drew.trans (hw3.mono (by simpa using HBRS.out)); have hb3 := HBG.out.drew.trans (hw3.mono (by simpa using hsg)); have HOO := Lib.hid (HOK.out _ _ (HRU.out.keep hbr3) HV3.out))
          | (go_at_call 25; refine HOO.out.mono ?_; rintro e w' ⟨rfl, rfl⟩))
        all_goals go_wp2_with fail
        all_goals exact ⟨⟨k + 1, by omega, by go_num, hbr3, HQ2.out⟩, by simp [intOf]; omega⟩
    · have hkT : k = T := by omega
      subst hkT
      have HR := Lib.hid (HYES.out HQ.out)
      clear HQ HYES HNO hlt
      go_wp2_with fail
      go_ret
      exact ⟨ret_bool HR.out.symm, HBW.out⟩
end Go.Proofs.YtjpchjbpolcndaaDoor

namespace Go.Proofs.YtjpchjbpolcndaaDoor
open Go.RowKit

/-- The first place cut off. -/
theorem modelCut_any (n m : Nat) (w : World) (hm : m ≤ 60) :
    Calls Tryd.prog 51 #[.slice none 0 0, .int .i64 (n : Int), .int .i64 (m : Int)] w fun e w' => (∃ g cap, e = .returned (.slice (some ⟨g, 0, none⟩) (m + 1) cap) ∧ m + 1 ≤ cap ∧ cap ≤ maxLen ∧ BoolRow w' (.slice (some ⟨g, 0, none⟩) (m + 1) cap) (false :: bitsN n m) ∧ BoolRow w' (.slice (if cap = 1 then some ⟨g, 0, none⟩ else some ⟨g, 1, none⟩) m (cap - 1)) (bitsN n m)) ∧ Below w.heap.size w w' := by
  refine (refModel_any (.slice none 0 0) [] n m w (RowG.nil _ _ _) (by simp) hm).mono ?_
  rintro e w' ⟨⟨v, rfl, ho⟩, hb⟩
  rw [List.nil_append] at ho
  have hl : 1 + List.length ([] : List Bool) + m = m + 1 := by simp; omega
  rw [hl] at ho
  have hr : BoolRow w' v (false :: bitsN n m) := own_rowG ho
  rcases ho.2 with ⟨_, e1⟩ | ⟨g, cap, cur, rfl, _, _, h1, h2, _⟩
  · omega
  · refine ⟨⟨g, cap, rfl, h1, h2, hr, ?_⟩, hb⟩
    obtain ⟨a', c', e', h3, h4, h5⟩ := hr
    injection e' with e1 _ e3
    subst e1; subst e3
    have hbl := bitsN_len n m
    by_cases hc1 : cap = 1
    · have hm0 : m = 0 := by omega
      subst hm0
      rw [if_pos hc1]
      exact ⟨_, cap - 1, by rw [hbl], by rw [hbl]; omega, by unfold maxLen at *; omega, .inl rfl⟩
    rw [if_neg hc1]
    refine ⟨_, cap - 1, by rw [hbl], by rw [hbl]; omega, by unfold maxLen at *; omega, ?_⟩
    rcases h5 with h5 | ⟨b, off, e2, hlt, hc⟩
    · simp at h5
    · injection e2 with e2
      injection e2 with e2 e4
      subst e2; subst e4
      refine .inr ⟨g, 1, rfl, hlt, fun i hi => ?_⟩
      have := hc (i + 1) (by simp; omega)
      rw [Nat.zero_add, getD_cons _ _ _ (by omega), Nat.add_sub_cancel, Nat.add_comm] at this
      exact this

set_option maxRecDepth 8000 in
set_option maxHeartbeats 2000000 in
theorem refValue_any (ex : Bool) (vo vi : Value) (ol il : List Int) (a : Option Addr) (c : Nat) (xss : List (List Int)) (w : World) (ho : Row w vo ol) (hi : Row w vi il) (hr : RowsAt w a c xss)
    (hint : ∀ xs ∈ xss, ∀ l ∈ xs, -9223372036854775807 ≤ l ∧ l ≤ 9223372036854775807) (hlen : ∀ xs ∈ xss, xs.length ≤ 1000000) (hm : xss.length ≤ 1000000) (hok : okM (ol ++ il) xss = true) (hn : ol.length ≤ 20) (h20 : il.length ≤ 20) :
    Calls Tryd.prog 19 #[.agg #[.bool ex, vo, vi, .slice a xss.length c]] w fun e w' => e = .returned (.bool (valueB (renM (ol ++ il) xss) ex ol.length il.length)) ∧ Below w.heap.size w w' := by
  have HWN := Lib.hid (fun n W v (hW : Below w.heap.size w W) (hk : BoolRow W v (bitsN n ol.length)) => refWins_any ex vo vi ol il a c xss v (bitsN n ol.length) W (ho.keep hW) (hi.keep hW) (hr.keep hW) hk hint hlen hm hok (by rw [bitsN_len]; exact hn) hn h20)
  have HMD := Lib.hid (fun n W => modelCut_any n ol.length W (by omega))
  have HCX : Hid (∀ W, Below (w.alloc (.cells #[.bool ex, vo, vi, .slice a xss.length c] 26)).heap.size (w.alloc (.cells #[.bool ex, vo, vi, .slice a xss.length c] 26)) W → (W.cell? ⟨w.heap.size, 0, none⟩ = some (.bool ex) ∧ W.cell? ⟨w.heap.size, 1, none⟩ = some vo ∧ W.cell? ⟨w.heap.size, 2, none⟩ = some vi ∧ W.cell? ⟨w.heap.size, 3, none⟩ = some (.slice a xss.length c)) ∧ Below w.heap.size w W) := fun W h =>
    ⟨(cells4 w W _ _ _ _ 26 h).1, ((Below.refl _ w).alloc (Nat.le_refl _) _).trans (h.mono (by simp))⟩
  have HYS := Lib.hid (fun o (h1 : o < 2 ^ ol.length) h => @value_yes (renM (ol ++ il) xss) ex ol.length il.length o h1 h)
  have HNN := Lib.hid (fun h => @value_no (renM (ol ++ il) xss) ex ol.length il.length h)
  obtain ⟨ao, co, rfl, _⟩ := ho
  obtain ⟨ai, ci, rfl, _⟩ := hi
  clear hr hint hlen hm hok
  have hpi := pow_wrap ol.length hn
  have hpb := pow20 hn
  generalize valueB (renM (ol ++ il) xss) ex ol.length il.length = r at *
  generalize renM (ol ++ il) xss = ms at *
  generalize hT : 2 ^ ol.length = T at *
  clear hT
  generalize ol.length = no at *
  generalize il.length = ni at *
  generalize xss.length = nx at *
  have hu64 : IntKind.u64.wrap (no : Int) = (no : Int) := by simp [IntKind.wrap, IntKind.bits, IntKind.signed]; omega
  go_enter Tryd.func19, Tryd.ntmps19
  go_wp2_with fail
  go_loopw [3] (fun i wr => ∃ k : Nat, k ≤ T ∧ i = .int .i64 k ∧ Below (w.alloc (.cells #[.bool ex, .slice ao no co, .slice ai ni ci, .slice a nx c] 26)).heap.size (w.alloc (.cells #[.bool ex, .slice ao no co, .slice ai ni ci, .slice a nx c] 26)) wr ∧ Hid (∀ j, j < k → winsB ms ex (bitsN j no) ni = false)) (fun i _ => T - (intOf i).toNat)
  case atStart => exact ⟨0, Nat.zero_le _, rfl, Below.refl _ _, fun j hj => absurd hj (Nat.not_lt_zero _)⟩
  case round =>
    obtain ⟨k, hk, rfl, hbr, HQ⟩ := hrel
    obtain ⟨⟨c0, c1, c2, c3⟩, hbw⟩ := HCX.out wr hbr
    have HBG := Lib.hid hbr
    have HBW := Lib.hid hbw
    have hsg := hbr.size
    have hsw := hbw.size
    clear hbr hbw
    by_cases hlt : k < T
    · have HWK := Lib.hid (HWN.out k)
      have HMK := Lib.hid (HMD.out k)
      have HYK := Lib.hid (HYS.out k hlt)
      have HQ1 : Hid (winsB ms ex (bitsN k no) ni = false → ∀ j, j < k + 1 → winsB ms ex (bitsN j no) ni = false) := fun h j hj => by
        by_cases e : j = k
        · subst e; exact h
        · exact HQ.out j (by omega)
      have HKP : Hid (∀ W, Below (w.alloc (.cells #[.bool ex, .slice ao no co, .slice ai ni ci, .slice a nx c] 26)).heap.size (w.alloc (.cells #[.bool ex, .slice ao no co, .slice ai ni ci, .slice a nx c] 26)) W → W.cell? ⟨w.heap.size, 0, none⟩ = some (.bool ex) ∧ W.cell? ⟨w.heap.size, 1, none⟩ = some (.slice ao no co) ∧ W.cell? ⟨w.heap.size, 2, none⟩ = some (.slice ai ni ci) ∧ W.cell? ⟨w.heap.size, 3, none⟩ = some (.slice a nx c)) := fun W h => (HCX.out W h).1
      generalize winsB ms ex (bitsN k no) ni = t at *
      cases t with
      | true =>
        have HF := Lib.hid (HYK.out rfl)
        clear HQ1 HYK
        go_wp2_with fail
        go_region_held3 (fun W => W.cell? ⟨w.heap.size, 0, none⟩ = some (.bool ex) ∧ W.cell? ⟨w.heap.size, 1, none⟩ = some (.slice ao no co) ∧ W.cell? ⟨w.heap.size, 2, none⟩ = some (.slice ai ni ci) ∧ W.cell? ⟨w.heap.size, 3, none⟩ = some (.slice a nx c)) (first | exact HKP.out _ HBG.out | exact HKP.out _ HBG.out.drew | exact HKP.out _ (below_drewN HBG.out _) | exact HKP.out _ hb3 | exact HKP.out _ hb4) (first
          | (go_at_call 51; refine (HMK.out _).mono ?_; rintro e w3 ⟨⟨g, cap, rfl, hc1, hc2, _, hv3⟩, hw3⟩; have hb3 := HBG.out.drew.trans (hw3.mono (by simpa using hsg)); have hbw3 := (HCX.out _ hb3).2; have HV3 := Lib.hid hv3; clear hv3; have hc3 : (1 : Int) ≤ (no : Int) + 1 := by omega)
          | (go_at_call 20; generalize (if cap = 1 then some (⟨g, 0, none⟩ : Addr) else some ⟨g, 1, none⟩) = q at HV3 ⊢; refine (HWK.out _ _ hbw3 HV3.out).mono ?_; rintro e w4 ⟨rfl, hw4⟩; have hb4 := hb3.trans (hw4.mono hb3.size)))
        all_goals obtain ⟨z0, _, _, _⟩ := HKP.out _ hb4
        all_goals go_wp2_with fail
        all_goals go_ret
        all_goals exact ⟨ret_bool HF.out.symm, (HCX.out _ hb4).2⟩
      | false =>
        have HQ2 := Lib.hid (HQ1.out rfl)
        clear HQ1 HYK
        go_wp2_with fail
        go_region_held3 (fun W => W.cell? ⟨w.heap.size, 0, none⟩ = some (.bool ex) ∧ W.cell? ⟨w.heap.size, 1, none⟩ = some (.slice ao no co) ∧ W.cell? ⟨w.heap.size, 2, none⟩ = some (.slice ai ni ci) ∧ W.cell? ⟨w.heap.size, 3, none⟩ = some (.slice a nx c)) (first | exact HKP.out _ HBG.out | exact HKP.out _ HBG.out.drew | exact HKP.out _ (below_drewN HBG.out _) | exact HKP.out _ hb3 | exact HKP.out _ hb4) (first
          | (go_at_call 51; refine (HMK.out _).mono ?_; rintro e w3 ⟨⟨g, cap, rfl, hc1, hc2, _, hv3⟩, hw3⟩; have hb3 := HBG.out.drew.trans (hw3.mono (by simpa using hsg)); have hbw3 := (HCX.out _ hb3).2; have HV3 := Lib.hid hv3; clear hv3; have hc3 : (1 : Int) ≤ (no : Int) + 1 := by omega)
          | (go_at_call 20; generalize (if cap = 1 then some (⟨g, 0, none⟩ : Addr) else some ⟨g, 1, none⟩) = q at HV3 ⊢; refine (HWK.out _ _ hbw3 HV3.out).mono ?_; rintro e w4 ⟨rfl, hw4⟩; have hb4 := hb3.trans (hw4.mono hb3.size)))
        all_goals go_wp2_with fail
        all_goals exact ⟨⟨k + 1, by omega, by go_num, hb4, HQ2.out⟩, by simp [intOf]; omega⟩
    · have hkT : k = T := by omega
      subst hkT
      have HR := Lib.hid (HNN.out HQ.out)
      clear HQ HYS HNN hlt
      go_wp2_with fail
      go_ret
      exact ⟨ret_bool HR.out.symm, HBW.out⟩

def RSatPost (m : List (List Int)) (v : Nat) (w : World) (e : Ending) (w' : World) : Prop :=
  (∃ u, e = .returned (.tuple #[u, .bool (satN m v).isSome]) ∧ (∀ n, satN m v = some n → BoolRow w' u (false :: bitsN n v)) ∧ (satN m v = none → u = .slice none 0 0)) ∧ Below w.heap.size w w'

set_option maxRecDepth 8000 in
set_option maxHeartbeats 2000000 in
theorem refSat_any (vn : Nat) (a : Option Addr) (c : Nat) (xss : List (List Int)) (w : World) (hr : RowsAt w a c xss) (hgood : allIs (vn : Int) xss) (h20 : vn ≤ 20) :
    Calls Tryd.prog 18 #[.agg #[.int .i64 (vn : Int), .slice a xss.length c]] w (RSatPost xss vn w) := by
  have HIW := Lib.hid (inW_plc (by omega) (all_plc hgood))
  have HMD := Lib.hid (fun n W => modelCut_any n vn W (by omega))
  have HOF := Lib.hid (fun W mv bs (hW : Below w.heap.size w W) (h2 : BoolRow W mv bs) => refOf_any a c xss mv bs W (hr.keep hW) h2 HIW.out)
  have HSM := Lib.hid (fun n hn hp h => @satN_some xss vn n hn hp h)
  have HNO := Lib.hid (fun h => @satN_none xss vn h)
  have HCX : Hid (∀ W, Below (w.alloc (.cells #[.int .i64 (vn : Int), .slice a xss.length c] 30)).heap.size (w.alloc (.cells #[.int .i64 (vn : Int), .slice a xss.length c] 30)) W → (W.cell? ⟨w.heap.size, 0, none⟩ = some (.int .i64 (vn : Int)) ∧ W.cell? ⟨w.heap.size, 1, none⟩ = some (.slice a xss.length c)) ∧ Below w.heap.size w W) := fun W h =>
    ⟨cells2 w W _ _ 30 h, ((Below.refl _ w).alloc (Nat.le_refl _) _).trans (h.mono (by simp))⟩
  clear hr hgood
  have hpi := pow_wrap vn h20
  have hpb := pow20 h20
  have hu64 : IntKind.u64.wrap (vn : Int) = (vn : Int) := by simp [IntKind.wrap, IntKind.bits, IntKind.signed]; omega
  generalize hT : 2 ^ vn = T at *
  clear hT
  generalize xss.length = nx at *
  go_enter Tryd.func18, Tryd.ntmps18
  go_wp2_with fail
  go_loopw [4, 5] (fun i _ wr => ∃ k : Nat, k ≤ T ∧ i = .int .i64 k ∧ Below (w.alloc (.cells #[.int .i64 (vn : Int), .slice a nx c] 30)).heap.size (w.alloc (.cells #[.int .i64 (vn : Int), .slice a nx c] 30)) wr ∧ Hid (∀ j, j < k → ofL xss (false :: bitsN j vn) = false)) (fun i _ _ => T - (intOf i).toNat)
  case atStart => exact ⟨0, Nat.zero_le _, rfl, Below.refl _ _, fun j hj => absurd hj (Nat.not_lt_zero _)⟩
  case round =>
    obtain ⟨k, hk, rfl, hbr, HQ⟩ := hrel
    obtain ⟨⟨c0, c1⟩, hbw⟩ := HCX.out wr hbr
    have HBG := Lib.hid hbr
    have HBW := Lib.hid hbw
    have hsg := hbr.size
    clear hbr hbw
    by_cases hlt : k < T
    · have HMK := Lib.hid (HMD.out k)
      have HSK := Lib.hid (HSM.out k hlt HQ.out)
      have HOK := Lib.hid (fun W mv (hW : Below w.heap.size w W) (h2 : BoolRow W mv (false :: bitsN k vn)) => HOF.out W mv _ hW h2)
      have HQ1 : Hid (ofL xss (false :: bitsN k vn) = false → ∀ j, j < k + 1 → ofL xss (false :: bitsN j vn) = false) := fun h j hj => by
        by_cases e : j = k
        · subst e; exact h
        · exact HQ.out j (by omega)
      generalize ofL xss (false :: bitsN k vn) = t at *
      cases t with
      | true =>
        have HF := Lib.hid (HSK.out rfl)
        clear HQ1 HSK
        go_wp2_with (first
          | (go_at_call 51; refine (HMK.out _).mono ?_; rintro e w3 ⟨⟨g, cap, rfl, hc1, hc2, hv3, _⟩, hw3⟩; have hb3 := HBG.out.trans (hw3.mono hsg); obtain ⟨⟨x0, x1⟩, hbw3⟩ := HCX.out _ hb3; have HV3 := Lib.hid hv3; have HOO := Lib.hid (HOK.out _ _ hbw3 hv3); clear hv3)
          | (go_at_call 25; refine HOO.out.mono ?_; rintro e w' ⟨rfl, rfl⟩))
        go_ret2
        refine ⟨⟨_, by rw [HF.out]; rfl, fun n hn => ?_, fun hn => ?_⟩, hbw3⟩
        · rw [HF.out] at hn
          obtain rfl := Option.some.inj hn
          exact HV3.out
        · rw [HF.out] at hn
          cases hn
      | false =>
        have HQ2 := Lib.hid (HQ1.out rfl)
        clear HQ1 HSK
        go_wp2_with (first
          | (go_at_call 51; refine (HMK.out _).mono ?_; rintro e w3 ⟨⟨g, cap, rfl, hc1, hc2, hv3, _⟩, hw3⟩; have hb3 := HBG.out.trans (hw3.mono hsg); obtain ⟨⟨x0, x1⟩, hbw3⟩ := HCX.out _ hb3; have HOO := Lib.hid (HOK.out _ _ hbw3 hv3); clear hv3)
          | (go_at_call 25; refine HOO.out.mono ?_; rintro e w' ⟨rfl, rfl⟩))
        go_roundw
        case rel => exact ⟨k + 1, by omega, by go_num, hb3, HQ2.out⟩
        case measure => simp [intOf]; omega
    · have hkT : k = T := by omega
      subst hkT
      have HF := Lib.hid (HNO.out HQ.out)
      clear HQ HNO HSM hlt
      go_wp2_with fail
      go_ret2
      refine ⟨⟨_, by rw [HF.out]; rfl, fun n hn => ?_, fun _ => rfl⟩, HBW.out⟩
      rw [HF.out] at hn
      cases hn
end Go.Proofs.YtjpchjbpolcndaaDoor

namespace Go.Proofs.YtjpchjbpolcndaaDoor
open Go.RowKit

theorem len_sumL : ∀ (xss : List (List Int)) (xs : List Int), xs ∈ xss → xs.length ≤ (xss.map List.length).sum := by
  intro xss
  induction xss with
  | nil => intro xs h; cases h
  | cons y ys ih =>
    intro xs h
    rw [List.map_cons, List.sum_cons]
    rcases List.mem_cons.1 h with rfl | h
    · omega
    · have := ih xs h; omega
/-- The drawn game. -/
structure GmS (W : World) (va vb : Value) (la lb : List Int) (ac : Option Addr) (cc : Nat) (xss : List (List Int)) : Prop where
  ra : Row W va la
  rb : Row W vb lb
  rc : RowsAt W ac cc xss
  bd : ∀ v ∈ la ++ lb, -9223372036854775808 ≤ v ∧ v ≤ 9223372036854775807
  int : ∀ xs ∈ xss, ∀ l ∈ xs, -9223372036854775807 ≤ l ∧ l ≤ 9223372036854775807
  len : ∀ xs ∈ xss, xs.length ≤ 1000
  many : xss.length ≤ 1000
  ok : okM (la ++ lb) xss = true
  small : la.length + lb.length ≤ 9
theorem GmS.keep {W W' : World} {va vb : Value} {la lb : List Int} {ac : Option Addr} {cc : Nat} {xss : List (List Int)} (h : GmS W va vb la lb ac cc xss) (hb : Below W.heap.size W W') : GmS W' va vb la lb ac cc xss :=
  ⟨h.ra.keep hb, h.rb.keep hb, h.rc.keep hb, h.bd, h.int, h.len, h.many, h.ok, h.small⟩
theorem GmS.make {W : World} {va vb : Value} {la lb : List Int} {ac : Option Addr} {cc : Nat} {xss : List (List Int)} {m n : Nat} (ra : Row W va la) (rb : Row W vb lb) (rc : RowsAt W ac cc xss) (hm : m ≤ 9) (hn : n ≤ 60) (sp : SpJ ((m : Int) + 1) la lb) (hs : la.length + lb.length ≤ m) (hg : ∀ c ∈ xss, ∀ l ∈ c, l ≠ 0 ∧ isF l (m : Int) = true) (h1 : (xss.map List.length).sum ≤ n) (h2 : xss.length ≤ n) : GmS W va vb la lb ac cc xss := by
  have hl : ∀ xs ∈ xss, ∀ l ∈ xs, l ≠ 0 ∧ l ≤ (m : Int) ∧ -(m : Int) ≤ l := fun xs hx l hl => by
    have h := (hg xs hx l hl).2
    unfold isF at h
    simp at h
    exact ⟨h.1, h.2.1, h.2.2⟩
  refine ⟨ra, rb, rc, fun v hv => ?_, fun xs hx l hl' => ?_, fun xs hx => ?_, by omega, ?_, by omega⟩
  · have := sp.rng v hv; omega
  · have := hl xs hx l hl'; omega
  · have := len_sumL xss xs hx; omega
  · unfold okM
    rw [List.all_eq_true]
    intro xs hx
    rw [List.all_eq_true]
    intro l hl'
    have := hl xs hx l hl'
    unfold okP
    have ha : 1 ≤ absI l ∧ absI l < (m : Int) + 1 := by unfold absI; split <;> omega
    exact decide_eq_true ⟨sp.all _ ha.1 ha.2, by omega⟩
/-- The clauses drawn apart. -/
structure CnS (W : World) (m : Nat) (ac : Option Addr) (cc : Nat) (xss : List (List Int)) : Prop where
  rc : RowsAt W ac cc xss
  int : ∀ xs ∈ xss, ∀ l ∈ xs, -9223372036854775807 ≤ l ∧ l ≤ 9223372036854775807
  len : ∀ xs ∈ xss, xs.length < 1000000000
  many : xss.length ≤ 1000
  good : allIs (m : Int) xss
  much : ¬ tooMuch (m : Int) xss
  small : m ≤ 9
theorem CnS.keep {W W' : World} {m : Nat} {ac : Option Addr} {cc : Nat} {xss : List (List Int)} (h : CnS W m ac cc xss) (hb : Below W.heap.size W W') : CnS W' m ac cc xss :=
  ⟨h.rc.keep hb, h.int, h.len, h.many, h.good, h.much, h.small⟩
theorem sumTo_sum (xss : List (List Int)) : sumTo xss xss.length = (xss.map List.length).sum := by
  unfold sumTo
  rw [List.take_length]
theorem CnS.make {W : World} {ac : Option Addr} {cc : Nat} {xss : List (List Int)} {m n : Nat} (rc : RowsAt W ac cc xss) (hm : m ≤ 9) (hn : n ≤ 60) (hg : ∀ c ∈ xss, ∀ l ∈ c, l ≠ 0 ∧ isF l (m : Int) = true) (h1 : (xss.map List.length).sum ≤ n) (h2 : xss.length ≤ n) : CnS W m ac cc xss := by
  have hl : ∀ xs ∈ xss, ∀ l ∈ xs, l ≠ 0 ∧ l ≤ (m : Int) ∧ -(m : Int) ≤ l := fun xs hx l hl => by
    have h := (hg xs hx l hl).2
    unfold isF at h
    simp at h
    exact ⟨h.1, h.2.1, h.2.2⟩
  refine ⟨rc, fun xs hx l hl' => ?_, fun xs hx => ?_, by omega, fun xs hx l hl' => ?_, ?_, hm⟩
  · have := hl xs hx l hl'; omega
  · have := len_sumL xss xs hx; omega
  · have := hl xs hx l hl'
    have ha : 1 ≤ absI l ∧ absI l ≤ (m : Int) := by unfold absI; split <;> omega
    unfold isB
    rw [decide_eq_true ha.1, decide_eq_true ha.2]
    rfl
  · unfold tooMuch
    rw [sumTo_sum]
    omega
theorem gmS_value {W : World} {va vb : Value} {la lb : List Int} {ac : Option Addr} {cc : Nat} {xss : List (List Int)} (ex : Bool) (h : GmS W va vb la lb ac cc xss) :
    Calls Tryd.prog 13 #[.agg #[.bool ex, va, vb, .slice ac xss.length cc]] W fun e w' => e = .returned (.tuple #[.bool (valueB (renM (la ++ lb) xss) ex la.length lb.length), .nilIface]) ∧ Below W.heap.size W w' :=
  value_ok ex va vb la lb ac cc xss W h.ra h.rb h.rc h.bd h.int (fun xs hx => by have := h.len xs hx; omega) (by have := h.many; omega) h.ok (by have := h.small; omega)
theorem gmS_refValue {W : World} {va vb : Value} {la lb : List Int} {ac : Option Addr} {cc : Nat} {xss : List (List Int)} (ex : Bool) (h : GmS W va vb la lb ac cc xss) :
    Calls Tryd.prog 19 #[.agg #[.bool ex, va, vb, .slice ac xss.length cc]] W fun e w' => e = .returned (.bool (valueB (renM (la ++ lb) xss) ex la.length lb.length)) ∧ Below W.heap.size W w' :=
  refValue_any ex va vb la lb ac cc xss W h.ra h.rb h.rc h.int (fun xs hx => by have := h.len xs hx; omega) (by have := h.many; omega) h.ok (by have := h.small; omega) (by have := h.small; omega)
theorem gmS_wins {W : World} {va vb : Value} {la lb : List Int} {ac : Option Addr} {cc : Nat} {xss : List (List Int)} (ex : Bool) (kv : Value) (kn : List Bool) (h : GmS W va vb la lb ac cc xss) (hk : BoolRow W kv kn) (hkn : kn.length = la.length) :
    Calls Tryd.prog 15 #[.agg #[.bool ex, va, vb, .slice ac xss.length cc], kv] W fun e w' => e = .returned (.tuple #[.bool (winsB (renM (la ++ lb) xss) ex kn lb.length), .nilIface]) ∧ Below W.heap.size W w' :=
  wins_ok ex va vb la lb ac cc xss kv kn W h.ra h.rb h.rc hk h.bd h.int (fun xs hx => by have := h.len xs hx; omega) (by have := h.many; omega) h.ok hkn (by have := h.small; omega) (by have := h.small; omega)
theorem gmS_refWins {W : World} {va vb : Value} {la lb : List Int} {ac : Option Addr} {cc : Nat} {xss : List (List Int)} (ex : Bool) (kv : Value) (kn : List Bool) (h : GmS W va vb la lb ac cc xss) (hk : BoolRow W kv kn) (hkn : kn.length = la.length) :
    Calls Tryd.prog 20 #[.agg #[.bool ex, va, vb, .slice ac xss.length cc], kv] W fun e w' => e = .returned (.bool (winsB (renM (la ++ lb) xss) ex kn lb.length)) ∧ Below W.heap.size W w' :=
  refWins_any ex va vb la lb ac cc xss kv kn W h.ra h.rb h.rc hk h.int (fun xs hx => by have := h.len xs hx; omega) (by have := h.many; omega) h.ok (by have := h.small; omega) (by have := h.small; omega) (by have := h.small; omega)
/-- The model told, as a list. -/
def satL (m : List (List Int)) (v : Nat) : List Bool := match satN m v with
  | some n => false :: bitsN n v
  | none => []
theorem satL_row {m : List (List Int)} {v : Nat} {w : World} {u : Value} (h1 : ∀ n, satN m v = some n → BoolRow w u (false :: bitsN n v)) (h2 : satN m v = none → u = .slice none 0 0) : BoolRow w u (satL m v) := by
  unfold satL
  cases h : satN m v with
  | some n => exact h1 n h
  | none => rw [h2 h]; exact RowG.nil _ _ _
theorem cnS_sat {A : Nat → Addr} {W : World} {m : Nat} {ac : Option Addr} {cc : Nat} {xss : List (List Int)} (hS : Sents2 W A) (h : CnS W m ac cc xss) :
    Calls Tryd.prog 17 #[.agg #[.int .i64 (m : Int), .slice ac xss.length cc]] W fun e w' => (∃ u, e = .returned (.tuple #[u, .bool (satN xss m).isSome, .nilIface]) ∧ BoolRow w' u (satL xss m)) ∧ Below W.heap.size W w' := by
  refine (sat_ok A m ac cc xss W hS h.rc h.int h.len (by have := h.many; omega) h.good h.much (by have := h.small; omega)).mono ?_
  rintro e w' ⟨⟨u, h1, h2, h3⟩, hb⟩
  exact ⟨⟨u, h1, satL_row h2 h3⟩, hb⟩
theorem cnS_refSat {W : World} {m : Nat} {ac : Option Addr} {cc : Nat} {xss : List (List Int)} (h : CnS W m ac cc xss) :
    Calls Tryd.prog 18 #[.agg #[.int .i64 (m : Int), .slice ac xss.length cc]] W fun e w' => (∃ u, e = .returned (.tuple #[u, .bool (satN xss m).isSome]) ∧ BoolRow w' u (satL xss m)) ∧ Below W.heap.size W w' := by
  refine (refSat_any m ac cc xss W h.rc h.good (by have := h.small; omega)).mono ?_
  rintro e w' ⟨⟨u, h1, h2, h3⟩, hb⟩
  exact ⟨⟨u, h1, satL_row h2 h3⟩, hb⟩
/-- The formula drawn: two blocks, and what holds of these as a game. -/
theorem makeGm (a : Option Addr) (c : Nat) (cs : List Int) (ex : Bool) (fi : Nat) (m : Nat) (w : World) (hm1 : 1 ≤ m) (hm2 : m ≤ 9) (hv : RowAt w a c cs) (hcs : ∀ y ∈ cs, -9223372036854775808 ≤ y ∧ y ≤ 9223372036854775807) (hn : cs.length ≤ 60) :
    Calls Tryd.prog 12 #[.slice a cs.length c, .int .i64 (m : Int), .int .i64 (fi : Int), .bool ex, .int .i64 0] w fun e w' => (∃ q d la lb ac cc xss, e = .returned (.agg #[.slice q 2 d, .int .i64 (m : Int), .slice ac (List.length xss) cc]) ∧ BRowsAt w' q d [(ex, la), (!ex, lb)] ∧ Hid (∀ W va vb, Below w'.heap.size w' W → Row W va la → Row W vb lb → GmS W va vb la lb ac cc xss)) ∧ Below w.heap.size w w' := by
  cases ex with
  | true =>
    refine (makeFormV_true a c cs fi m w hm1 hm2 hv hcs (by omega)).mono ?_
    rintro e w' ⟨⟨q, d, la, lb, ac, cc, xss, h1, h2, h3, h4, h5, h6, h7, h8⟩, hb⟩
    exact ⟨⟨q, d, la, lb, ac, cc, xss, h1, h2, Lib.hid fun W va vb hW ra rb => GmS.make ra rb (h3.keep hW) hm2 hn h4 h5 h6 h7 h8⟩, hb⟩
  | false =>
    refine (makeFormV_false a c cs fi m w hm1 hm2 hv hcs (by omega)).mono ?_
    rintro e w' ⟨⟨q, d, la, lb, ac, cc, xss, h1, h2, h3, h4, h5, h6, h7, h8⟩, hb⟩
    exact ⟨⟨q, d, la, lb, ac, cc, xss, h1, h2, Lib.hid fun W va vb hW ra rb => GmS.make ra rb (h3.keep hW) hm2 hn h4 h5 h6 h7 h8⟩, hb⟩
theorem makeCn (a : Option Addr) (c : Nat) (cs : List Int) (m : Nat) (w : World) (hm1 : 1 ≤ m) (hm2 : m ≤ 9) (hv : RowAt w a c cs) (hcs : ∀ y ∈ cs, -9223372036854775808 ≤ y ∧ y ≤ 9223372036854775807) (hn : cs.length ≤ 60) :
    Calls Tryd.prog 16 #[.slice a cs.length c, .int .i64 (m : Int)] w fun e w' => (∃ ac cc xss, e = .returned (.agg #[.int .i64 (m : Int), .slice ac (List.length xss) cc]) ∧ CnS w' m ac cc xss) ∧ Below w.heap.size w w' := by
  refine (makeCNF_any a c cs (m : Int) w (by omega) (by omega) hv hcs (by omega)).mono ?_
  rintro e w' ⟨⟨v, xss, rfl, h1, h2, h3, h4⟩, hb⟩
  obtain ⟨ac, cc, rfl, hr⟩ := h1.rows
  exact ⟨⟨ac, cc, xss, rfl, CnS.make hr hm2 hn h2 h3 h4⟩, hb⟩
end Go.Proofs.YtjpchjbpolcndaaDoor

namespace Go.Proofs.YtjpchjbpolcndaaDoor
open Go.RowKit

set_option maxRecDepth 8000 in
set_option maxHeartbeats 4000000 in
theorem lawSays_any (A : Nat → Addr) (a : Option Addr) (c : Nat) (cs : List Int) (x y : Int) (ex : Bool) (z : Int) (w : World) (hS : Sents2 w A) (hv : RowAt w a c cs) (hcs : ∀ y ∈ cs, -9223372036854775808 ≤ y ∧ y ≤ 9223372036854775807) :
    Calls Tryd.prog 3 #[.slice a cs.length c, .int .i64 x, .int .i64 y, .bool ex, .int .i64 z] w fun e w' => e = .returned (.bool true) ∧ Below w.heap.size w w' := by
  have HF := Lib.hid (fun W => first7_any W)
  by_cases hn : 60 < cs.length
  · have hd : decide ((60 : Int) < (cs.length : Int)) = true := decide_eq_true (by omega)
    have hd' : decide (60 < cs.length) = true := decide_eq_true (by omega)
    clear hv hcs hS
    generalize cs.length = n at *
    go_enter Tryd.func3, Tryd.ntmps3
    go_wp2_with (go_at_call 10; refine (HF.out _).mono ?_; rintro e w1 ⟨rfl, hb1⟩)
    go_ret
    exact ⟨rfl, hb1⟩
  have hd : decide ((60 : Int) < (cs.length : Int)) = false := decide_eq_false (by omega)
  have hd' : decide (60 < cs.length) = false := decide_eq_false hn
  have h9a := Int.tmod_lt_of_pos x (show (0 : Int) < 9 by omega)
  have h9b := Int.lt_tmod_of_pos x (show (0 : Int) < 9 by omega)
  obtain ⟨m, hm, hm1, hm9⟩ : ∃ m : Nat, x.tmod 9 % 9 + 1 = (m : Int) ∧ 1 ≤ m ∧ m ≤ 9 := ⟨(x.tmod 9 % 9 + 1).toNat, by omega, by omega, by omega⟩
  have hma := Int.tmod_lt_of_pos y (show (0 : Int) < (m : Int) + 1 by omega)
  have hmb := Int.lt_tmod_of_pos y (show (0 : Int) < (m : Int) + 1 by omega)
  have HFM := Lib.hid (fun W f (hW : Below w.heap.size w W) => makeGm a c cs ex f m W hm1 hm9 (hv.keep hW) hcs (by omega))
  have HCN := Lib.hid (fun W (hW : Below w.heap.size w W) => makeCn a c cs m W hm1 hm9 (hv.keep hW) hcs (by omega))
  have HS2 := Lib.hid (fun W (hW : Below w.heap.size w W) => hS.keep hW)
  clear hv hcs hS
  generalize cs.length = n at *
  go_enter Tryd.func3, Tryd.ntmps3
  go_upto_region 7 with (go_at_call 10; refine (HF.out _).mono ?_; rintro e w1 ⟨rfl, hb1⟩)
  have hmm : (0:Int) < (m : Int) + 1 := by omega
  clear hm h9a h9b
  go_wp2_with fail
  obtain ⟨f, hf⟩ : ∃ f : Nat, (y.tmod ((m : Int) + 1) + (m : Int) + 1) % ((m : Int) + 1) = (f : Int) := ⟨((y.tmod ((m : Int) + 1) + (m : Int) + 1) % ((m : Int) + 1)).toNat, (Int.toNat_of_nonneg (Int.emod_nonneg _ (by omega))).symm⟩
  rw [hf]
  clear hf hma hmb hmm
  generalize y.tmod ((m : Int) + 1) = yt at *
  generalize x.tmod 9 = xt at *
  refine (HFM.out w1 f hb1).mono ?_
  rintro e w2 ⟨⟨q, d, la, lb, ac, cc, xss, rfl, hbr, HGM⟩, hb2⟩
  have hb12 := hb1.trans (hb2.mono hb1.size)
  go_wp2_with fail
  refine (game_any ex (!ex) q d la lb (m : Int) ac xss.length cc w2 hbr).mono ?_
  rintro e w3 ⟨⟨va, vb, rfl, hra, hrb⟩, hb3⟩
  have hb13 := hb12.trans (hb3.mono hb12.size)
  have HG := Lib.hid (HGM.out w3 va vb hb3 hra hrb)
  obtain ⟨aa, ca, rfl, _⟩ := hra
  obtain ⟨ab, cb, rfl, _⟩ := hrb
  have hna : la.length ≤ 9 := by have := HG.out.small; omega
  have HCG : Hid (∀ W, Below (w3.alloc (.cells #[.bool ex, .slice aa la.length ca, .slice ab lb.length cb, .slice ac xss.length cc] 26)).heap.size (w3.alloc (.cells #[.bool ex, .slice aa la.length ca, .slice ab lb.length cb, .slice ac xss.length cc] 26)) W → (W.cell? ⟨w3.heap.size, 0, none⟩ = some (.bool ex) ∧ W.cell? ⟨w3.heap.size, 1, none⟩ = some (.slice aa la.length ca) ∧ W.cell? ⟨w3.heap.size, 2, none⟩ = some (.slice ab lb.length cb) ∧ W.cell? ⟨w3.heap.size, 3, none⟩ = some (.slice ac xss.length cc)) ∧ Below w3.heap.size w3 W ∧ Below w.heap.size w W) := fun W h => by
    have h3 : Below w3.heap.size w3 W := ((Below.refl _ w3).alloc (Nat.le_refl _) _).trans (h.mono (by simp))
    exact ⟨(cells4 w3 W _ _ _ _ 26 h).1, h3, hb13.trans (h3.mono hb13.size)⟩
  have HV := Lib.hid (fun W hW => gmS_value ex (HG.out.keep (HCG.out W hW).2.1))
  have HVR := Lib.hid (fun W hW => gmS_refValue ex (HG.out.keep (HCG.out W hW).2.1))
  have HVS := Lib.hid (fun W => values_any z la.length W (by omega))
  have HW := Lib.hid (fun W kv hW (hk : BoolRow W kv (valsI z la.length)) => gmS_wins ex kv (valsI z la.length) (HG.out.keep (HCG.out W hW).2.1) hk (valsI_len _ _))
  have HWR := Lib.hid (fun W kv hW (hk : BoolRow W kv (valsI z la.length)) => gmS_refWins ex kv (valsI z la.length) (HG.out.keep (HCG.out W hW).2.1) hk (valsI_len _ _))
  have hb4 := Below.refl (w3.alloc (.cells #[.bool ex, .slice aa la.length ca, .slice ab lb.length cb, .slice ac xss.length cc] 26)).heap.size (w3.alloc (.cells #[.bool ex, .slice aa la.length ca, .slice ab lb.length cb, .slice ac xss.length cc] 26))
  clear hb1 hb2 hb3 hb12 hb13 HG HGM HFM HF hbr
  generalize valueB (renM (la ++ lb) xss) ex la.length lb.length = r1 at *
  generalize winsB (renM (la ++ lb) xss) ex (valsI z la.length) lb.length = r2 at *
  generalize valsI z la.length = kn at *
  generalize la.length = na at *
  generalize lb.length = nb at *
  generalize xss.length = nx at *
  have hrr1 : (r1 == r1) = true := by simp
  have hrr2 : (r2 == r2) = true := by simp
  go_wp2_with fail
  refine (HV.out _ hb4).mono ?_
  rintro e w5 ⟨rfl, hw5⟩
  have hb5 := hb4.trans (hw5.mono hb4.size)
  obtain ⟨⟨x0, x1, x2, x3⟩, _⟩ := HCG.out _ hb5
  clear hw5
  go_wp2_with fail
  refine (HVS.out _).mono ?_
  rintro e w6 ⟨⟨kv, rfl, hkv⟩, hw6⟩
  have hb6 := hb5.trans (hw6.mono hb5.size)
  have HK6 : Hid (BoolRow w6 kv kn) := own_rowG hkv
  clear hkv hw6 x0 x1 x2 x3
  obtain ⟨⟨x0, x1, x2, x3⟩, _⟩ := HCG.out _ hb6
  go_wp2_with fail
  refine (HW.out _ _ hb6 HK6.out).mono ?_
  rintro e w7 ⟨rfl, hw7⟩
  have hb7 := hb6.trans (hw7.mono hb6.size)
  have HK7 := Lib.hid (HK6.out.keep hw7)
  clear HK6 hw7 x0 x1 x2 x3
  obtain ⟨_, _, hbw7⟩ := HCG.out _ hb7
  go_wp2_with fail
  refine (HCN.out _ hbw7).mono ?_
  rintro e w8 ⟨⟨a2, c2, yss, rfl, hcn⟩, hw8⟩
  have HK8 := Lib.hid (HK7.out.keep hw8)
  have hb8 := hb7.trans (hw8.mono hb7.size)
  have HCC : Hid (∀ W, Below (w8.alloc (.cells #[.int .i64 (m : Int), .slice a2 yss.length c2] 30)).heap.size (w8.alloc (.cells #[.int .i64 (m : Int), .slice a2 yss.length c2] 30)) W → (W.cell? ⟨w8.heap.size, 0, none⟩ = some (.int .i64 (m : Int)) ∧ W.cell? ⟨w8.heap.size, 1, none⟩ = some (.slice a2 yss.length c2)) ∧ Below w8.heap.size w8 W ∧ Below (w3.alloc (.cells #[.bool ex, .slice aa na ca, .slice ab nb cb, .slice ac nx cc] 26)).heap.size (w3.alloc (.cells #[.bool ex, .slice aa na ca, .slice ab nb cb, .slice ac nx cc] 26)) W) := fun W h => by
    have h8 : Below w8.heap.size w8 W := ((Below.refl _ w8).alloc (Nat.le_refl _) _).trans (h.mono (by simp))
    exact ⟨cells2 w8 W _ _ 30 h, h8, hb8.trans (h8.mono hb8.size)⟩
  have HST := Lib.hid (fun W hW => cnS_sat (HS2.out W (HCG.out W (HCC.out W hW).2.2).2.2) (hcn.keep (HCC.out W hW).2.1))
  have HSR := Lib.hid (fun W hW => cnS_refSat (hcn.keep (HCC.out W hW).2.1))
  have hb9 := Below.refl (w8.alloc (.cells #[.int .i64 (m : Int), .slice a2 yss.length c2] 30)).heap.size (w8.alloc (.cells #[.int .i64 (m : Int), .slice a2 yss.length c2] 30))
  have HK9 := Lib.hid (fun W hW => HK8.out.keep (HCC.out W hW).2.1)
  clear hb4 hb5 hb6 hb7 hb8 hw8 hcn HK7 HK8 hbw7 HS2 HCN
  generalize (satN yss m).isSome = r3 at *
  generalize satL yss m = ml at *
  generalize yss.length = ny at *
  have hrr3 : (r3 == r3) = true := by simp
  go_wp2_with fail
  refine (HST.out _ hb9).mono ?_
  rintro e w10 ⟨⟨u1, rfl, hu1⟩, hw10⟩
  have hb10 := hb9.trans (hw10.mono hb9.size)
  have HU1 := Lib.hid hu1
  obtain ⟨⟨y0, y1⟩, _⟩ := HCC.out _ hb10
  clear hw10 hu1
  go_wp2_with fail
  refine (HSR.out _ hb10).mono ?_
  rintro e w11 ⟨⟨u2, rfl, hu2⟩, hw11⟩
  have hb11 := hb10.trans (hw11.mono hb10.size)
  have HU2 := Lib.hid (And.intro (HU1.out.keep hw11) hu2)
  clear y0 y1 HU1 hu2 hw11
  have hg11 := (HCC.out _ hb11).2.2
  obtain ⟨⟨x0, x1, x2, x3⟩, _⟩ := HCG.out _ hg11
  go_wp2_with fail
  refine (HVR.out _ hg11).mono ?_
  rintro e w12 ⟨rfl, hw12⟩
  have hb12 := hb11.trans (hw12.mono hb11.size)
  have HU3 := Lib.hid (And.intro (HU2.out.1.keep hw12) (HU2.out.2.keep hw12))
  have hg12 := (HCC.out _ hb12).2.2
  clear x0 x1 x2 x3 HU2 hw12
  obtain ⟨⟨x0, x1, x2, x3⟩, _⟩ := HCG.out _ hg12
  go_wp2_with fail
  refine (HWR.out _ _ hg12 (HK9.out _ hb12)).mono ?_
  rintro e w13 ⟨rfl, hw13⟩
  have hb13 := hb12.trans (hw13.mono hb12.size)
  have hg13 := (HCC.out _ hb13).2.2
  have HU4 := Lib.hid (And.intro (HU3.out.1.keep hw13) (HU3.out.2.keep hw13))
  clear x0 x1 x2 x3 HU3 hw13
  go_wp2_with fail
  refine (sameBools_yes u1 u2 ml _ HU4.out.1 HU4.out.2).mono ?_
  rintro e w14 ⟨rfl, k14, rfl⟩
  go_wp2_with fail
  go_ret
  exact ⟨rfl, below_drewN (HCG.out _ hg13).2.2 _⟩
end Go.Proofs.YtjpchjbpolcndaaDoor
