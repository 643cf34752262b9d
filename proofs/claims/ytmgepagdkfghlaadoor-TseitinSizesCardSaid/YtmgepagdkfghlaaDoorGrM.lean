/- A graph in memory, the program's and the document's: its cells, its row of gates, its map; what a call on it may turn. No conditions beyond those typed. -/
import Derived.Test.YtmgepagdkfghlaaDoorGrP
import Derived.Test.YtmgepagdkfghlaaDoorGen
import Derived.Test.YtmgepagdkfghlaaDoorSents2
import Derived.Maps.OwnSet
import Derived.Maps.OwnOps
import Derived.DeepKeys4
namespace Go.Proofs.YtmgepagdkfghlaaDoor
open Go.RowKit Go.Maps

/-- Of what was there only the blocks of S may have turned. -/
structure Chg (S : List Nat) (w w' : World) : Prop where
  os : w'.os = w.os
  tape : w'.tape = w.tape
  output : w'.output = w.output
  size : w.heap.size ≤ w'.heap.size
  block : ∀ i, i < w.heap.size → i ∉ S → w'.heap[i]? = w.heap[i]?
/-- The blocks of T are old ones of S, or new. -/
def Fresh (w : World) (S T : List Nat) : Prop := ∀ i ∈ T, i ∈ S ∨ w.heap.size ≤ i
theorem Fresh.refl (w : World) (S : List Nat) : Fresh w S S := fun _ h => .inl h
theorem Fresh.trans {w w' : World} {S T U : List Nat} (h : Fresh w S T) (k : Fresh w' T U) (hs : w.heap.size ≤ w'.heap.size) : Fresh w S U := fun i hi =>
  (k i hi).elim (h i) (fun h' => .inr (Nat.le_trans hs h'))
theorem Chg.refl (S : List Nat) (w : World) : Chg S w w := ⟨rfl, rfl, rfl, Nat.le_refl _, fun _ _ _ => rfl⟩
theorem Chg.trans {S T : List Nat} {a b c : World} (h : Chg S a b) (k : Chg T b c) (hs : Fresh a S T) : Chg S a c :=
  ⟨k.os.trans h.os, k.tape.trans h.tape, k.output.trans h.output, Nat.le_trans h.size k.size, fun i hi hn => (k.block i (Nat.lt_of_lt_of_le hi h.size) (fun hm => (hs i hm).elim hn (fun h' => absurd hi (Nat.not_lt.2 h')))).trans (h.block i hi hn)⟩
theorem Chg.of_below {S : List Nat} {w w' : World} (h : Below w.heap.size w w') : Chg S w w' := ⟨h.os, h.tape, h.output, h.size, fun i hi _ => h.block i hi⟩
theorem Chg.below {S : List Nat} {B : Nat} {w0 w w' : World} (h : Chg S w w') (hb : Below B w0 w) (hB : B ≤ w.heap.size) (hS : ∀ i ∈ S, B ≤ i) : Below B w0 w' :=
  hb.trans ⟨h.os, h.tape, h.output, h.size, fun k hk => h.block k (Nat.lt_of_lt_of_le hk hB) (fun hm => absurd hk (Nat.not_lt.2 (hS k hm)))⟩
theorem Chg.setCell {S : List Nat} {w w' : World} (h : Chg S w w') {a : Addr} (ha : a.block ∈ S ∨ w.heap.size ≤ a.block) (u : Value) : Chg S w (w'.setCell a u) :=
  ⟨h.os, h.tape, h.output, by simpa [World.setCell] using h.size, fun i hi hn => (Below.heap_setCell _ _ _ _ (fun e => by
    subst e
    exact ha.elim hn (fun h' => absurd hi (Nat.not_lt.2 h')))).trans (h.block i hi hn)⟩
theorem Chg.alloc {S : List Nat} {w w' : World} (h : Chg S w w') (o : Obj) : Chg S w (w'.alloc o) :=
  ⟨h.os, h.tape, h.output, by have := h.size; simp; omega, fun i hi hn => (Below.heap_alloc _ _ _ (Nat.lt_of_lt_of_le hi h.size)).trans (h.block i hi hn)⟩
theorem Chg.app {S : List Nat} {w w' : World} {B : Nat} {v v' : Value} (h : App B w w' v v') (hv : ∀ k, v.ownBlock = some k → k ∈ S) : Chg S w w' :=
  ⟨h.below.os, h.below.tape, h.below.output, h.below.size, fun i hi hn => h.other i hi (fun e => hn (hv i e.symm))⟩
theorem Chg.grown {S : List Nat} {w w' : World} {r : Nat} (h : w.grownBy w' (some r)) (hr : r ∈ S) : Chg S w w' :=
  ⟨h.os, h.tape, h.output, h.size, fun i hi hn => h.block i hi (fun e => hn (by injection e with e; rw [e]; exact hr))⟩
theorem Chg.of_grown {S : List Nat} {w w' : World} {r : Option Nat} (h : w.grownBy w' r) (hr : ∀ k, r = some k → k ∈ S) : Chg S w w' :=
  ⟨h.os, h.tape, h.output, h.size, fun i hi hn => h.block i hi (fun e => hn (hr i e.symm))⟩
theorem Chg.drew {S : List Nat} {w w' : World} (h : Chg S w w') : Chg S w w'.drew := ⟨h.os, h.tape, h.output, h.size, h.block⟩
theorem Chg.cell {S : List Nat} {w w' : World} (h : Chg S w w') {b o : Nat} (hb : b < w.heap.size) (hn : b ∉ S) : w'.cell? ⟨b, o, none⟩ = w.cell? ⟨b, o, none⟩ := World.cell?_of_block (a := ⟨b, o, none⟩) (h.block b hb hn)

/-- A gate's two cells. -/
def pcells (x : Int × Int) : List Value := [.int .i64 x.1, .int .i64 x.2]
theorem pcells_one (x : Int × Int) : ∀ y ∈ pcells x, y.oneCell' = true := by
  intro y hy
  simp [pcells] at hy
  rcases hy with rfl | rfl <;> rfl
theorem pflat_len (xs : List (Int × Int)) : (xs.flatMap pcells).length = xs.length * 2 := by
  induction xs with
  | nil => rfl
  | cons x xs ih => rw [List.flatMap_cons, List.length_append, ih]; simp [pcells]; omega
theorem pflat_get : ∀ (ws : List (Int × Int)) (i j : Nat), i < ws.length → j < 2 → (ws.flatMap pcells)[i * 2 + j]? = (pcells (ws.getD i (0, 0)))[j]?
  | [], i, j, h, _ => by simp at h
  | x :: ws, 0, j, _, hj => by
    rw [List.flatMap_cons, List.getElem?_append_left (by simp [pcells]; omega)]
    simp
  | x :: ws, i + 1, j, h, hj => by
    have ih := pflat_get ws i j (by simpa using h) hj
    rw [List.flatMap_cons, List.getElem?_append_right (by simp [pcells]; omega)]
    rw [show (i + 1) * 2 + j - (pcells x).length = i * 2 + j by simp [pcells]; omega, ih]
    simp
/-- The blocks of a row. -/
def rowB (v : Value) : List Nat := match v.ownBlock with | some q => [q] | none => []
theorem mem_rowB {v : Value} {i : Nat} : i ∈ rowB v ↔ v.ownBlock = some i := by
  unfold rowB
  cases h : v.ownBlock with
  | none => simp
  | some q => simp; exact eq_comm
theorem own_chg {S : List Nat} {w w' : World} {B : Nat} {e : TypeId} {size : Nat} {v : Value} {n : Nat} {xs : List Value} (h : w.ownsRow B e size v n xs) (hc : Chg S w w') (hn : ∀ k, v.ownBlock = some k → k ∉ S) : w'.ownsRow B e size v n xs := by
  obtain ⟨h1, h2⟩ := h
  refine ⟨h1, ?_⟩
  rcases h2 with h2 | ⟨g, cap, cur, hv, hg, hh, r⟩
  · exact .inl h2
  · have hlt : g < w.heap.size := by
      rcases Nat.lt_or_ge g w.heap.size with h' | h'
      · exact h'
      · rw [Array.getElem?_eq_none h'] at hh; cases hh
    subst hv
    exact .inr ⟨g, cap, cur, rfl, hg, (hc.block g hlt (hn g rfl)).trans hh, r⟩
theorem rowB_lt {w : World} {B : Nat} {e : TypeId} {size : Nat} {v : Value} {n : Nat} {xs : List Value} (h : w.ownsRow B e size v n xs) : ∀ i ∈ rowB v, i < w.heap.size := fun i hi =>
  (h.lt i (mem_rowB.1 hi)).2

/-! ### The map of the gates -/
set_option maxRecDepth 100000 in
theorem rowA : (59 : TypeId) < Tryd.prog.types.size := of_decide_eq_true (by kernel_rfl)
theorem cellsA : Tryd.prog.cellsOf 59 = 2 := by kernel_rfl
set_option maxRecDepth 100000 in
theorem wideA : (match Tryd.prog.underlying 59 with | some (.array _ _) | some (.struct _) => true | _ => false) = true := by rw [Tryd.underlying59]
set_option maxRecDepth 100000 in
theorem laidA : laidOutB Tryd.prog = true := by kernel_rfl
theorem tenA : 2 + 1 ≤ 10000 := by omega
set_option maxRecDepth 100000 in
theorem lawA : Keyed Tryd.prog 59 := Keyed.of_law (deep_law_laid laidA (m := 2) tenA rowA (by kernel_rfl) wideA)
theorem formedA (x y : Int) : (Value.agg #[.int .i64 x, .int .i64 y]).formed Tryd.prog 59 = true := by simp [Value.formed, Tryd.underlying59, cellsA]
set_option maxRecDepth 100000 in
theorem ktypeA : Tryd.prog.keyType 59 = true := by kernel_rfl
theorem ksizeA : Tryd.prog.types.size + 1 = (Tryd.prog.types.size - 1) + 2 := by
  have h : 0 < Tryd.prog.types.size := Nat.lt_of_le_of_lt (Nat.zero_le _) (show (59 : Nat) < _ from rowA)
  omega
/-- A gate as a key. -/
def klA (x y : Int) : Lit := .string (keyBytes [.int .i64 x, .int .i64 y])
theorem keyA (x y : Int) (hx : -9223372036854775808 ≤ x ∧ x ≤ 9223372036854775807) (hy : -9223372036854775808 ≤ y ∧ y ≤ 9223372036854775807) : keyOf Tryd.prog 59 (.agg #[.int .i64 x, .int .i64 y]) = some (klA x y) := by
  have cI : Tryd.prog.cellsOf 3 = 1 := by kernel_rfl
  have w1 : (Lit.int .i64 x).wf = true := WalkArith.wf_i64 ⟨by omega, by omega⟩
  have w2 : (Lit.int .i64 y).wf = true := WalkArith.wf_i64 ⟨by omega, by omega⟩
  unfold keyOf
  rw [Tryd.underlying59]
  simp only [ktypeA, formedA, Bool.and_self, if_true]
  rw [ksizeA]
  generalize Tryd.prog.types.size - 1 = m
  rw [show (Value.agg #[.int .i64 x, .int .i64 y]).cells.toList = [.int .i64 x, .int .i64 y] from rfl]
  unfold Program.keyLits
  rw [Tryd.underlying59]
  simp only [cellsA, List.length_cons, List.length_nil, if_true, cI]
  unfold Program.keyLits
  rw [Tryd.underlying3]
  simp [List.range_succ, w1, w2, klA]
theorem klA_inj {x y x' y' : Int} (hx : -9223372036854775808 ≤ x ∧ x ≤ 9223372036854775807) (hy : -9223372036854775808 ≤ y ∧ y ≤ 9223372036854775807) (hx' : -9223372036854775808 ≤ x' ∧ x' ≤ 9223372036854775807) (hy' : -9223372036854775808 ≤ y' ∧ y' ≤ 9223372036854775807) (h : klA x y = klA x' y') : (x, y) = (x', y') := by
  have h1 := keyA x y hx hy
  have h2 := keyA x' y' hx' hy'
  rw [h] at h1
  have e := Value.agg.inj (lawA.inj h1 h2)
  clear h1 h2 h
  simpa using e
def in64 (x : Int) : Prop := -9223372036854775808 ≤ x ∧ x ≤ 9223372036854775807
/-- The map reads as the gates' literals. -/
def MapG (D : DataW Unit) (g : Gr) : Prop := IsMap D ∧ ∀ x y : Int, in64 x → in64 y → Maps.has D (klA x y) = decide ((x, y) ∈ g.ands) ∧ ((x, y) ∈ g.ands → D.atKey (klA x y) (.lit (.int .i64 0)) = .lit (.int .i64 (g.litOf (x, y))))
theorem MapG.start (n : Nat) (b : Int) : MapG (.map []) ⟨n, [], b⟩ := ⟨isMap_empty, fun x y _ _ => ⟨by simp [Maps.has], fun h => by simp at h⟩⟩
theorem MapG.bad {D : DataW Unit} {g : Gr} (h : MapG D g) (b : Int) : MapG D ⟨g.n, g.ands, b⟩ := h
theorem MapG.put {D : DataW Unit} {g : Gr} {x y : Int} (h : MapG D g) (hx : in64 x) (hy : in64 y) (hn : (x, y) ∉ g.ands) : MapG (D.put (klA x y) (.lit (.int .i64 (2 * ((g.len : Int) + 1))))) ⟨g.n, g.ands ++ [(x, y)], g.bad⟩ := by
  refine ⟨h.1.put _ _, fun x' y' hx' hy' => ?_⟩
  obtain ⟨h1, h2⟩ := h.2 x' y' hx' hy'
  by_cases e : (x', y') = (x, y)
  · obtain ⟨rfl, rfl⟩ := Prod.mk.inj e
    rw [has_put_same h.1 (lawA.key (keyA _ _ hx hy)), atKey_put_same h.1 (lawA.key (keyA _ _ hx hy))]
    refine ⟨by simp, fun _ => ?_⟩
    have hi : (g.ands ++ [(x', y')]).idxOf (x', y') = g.ands.length := by
      rw [List.idxOf_append, if_neg hn]; simp
    simp only [Gr.litOf, hi, Gr.len]
    congr 3
  · have hk : klA x' y' ≠ klA x y := fun h => e (klA_inj hx' hy' hx hy h)
    rw [has_put_other hk, atKey_put_other hk, h1]
    refine ⟨decide_eq_decide.2 (by simp [e]), fun hv => ?_⟩
    have hv' : (x', y') ∈ g.ands := by simpa [e] using hv
    rw [h2 hv']
    simp only [Gr.litOf, List.idxOf_append, if_pos hv']

/-- An error by its number. -/
def errC (A : Nat → Addr) (c : Int) : Value := if c = 0 then .nilIface else sentV A (c - 101).toNat
def badC (c : Int) : Prop := c = 0 ∨ c = 102 ∨ c = 104

/-- The program's graph g, behind the pointer v, in the blocks of S. -/
structure GrAt (w : World) (A : Nat → Addr) (v : Value) (S : List Nat) (g : Gr) (p m : Nat) (u : Value) (N : Nat) (D : DataW Unit) : Prop where
  val : v = .pointer (some ⟨p, 0, none⟩)
  foot : S = p :: m :: rowB u
  c0 : w.cell? ⟨p, 0, none⟩ = some (.int .i64 (g.n : Int))
  c1 : w.cell? ⟨p, 1, none⟩ = some u
  c2 : w.cell? ⟨p, 2, none⟩ = some (.map (some m))
  c3 : w.cell? ⟨p, 3, none⟩ = some (errC A g.bad)
  fr : ∀ i, w.frozen? ⟨p, i, none⟩ = false
  row : w.ownsRow 0 59 2 u g.ands.length (g.ands.flatMap pcells)
  map : w.ownsMap Tryd.prog 59 (plainElem Tryd.prog 3) m N D
  pm : p ≠ m
  pu : u.ownBlock ≠ some p
  mu : u.ownBlock ≠ some m
  nle : N ≤ g.ands.length
  mapg : MapG D g
  len : g.len ≤ 8000
  bad : badC g.bad
def GrM (w : World) (A : Nat → Addr) (v : Value) (S : List Nat) (g : Gr) : Prop := ∃ p m u N D, GrAt w A v S g p m u N D
theorem GrAt.lt {w : World} {A : Nat → Addr} {v : Value} {S : List Nat} {g : Gr} {p m : Nat} {u : Value} {N : Nat} {D : DataW Unit} (h : GrAt w A v S g p m u N D) : ∀ i ∈ S, i < w.heap.size := by
  intro i hi
  rw [h.foot] at hi
  simp only [List.mem_cons] at hi
  rcases hi with rfl | rfl | hi
  · exact World.block_lt_of_cell? w _ h.c0
  · exact h.map.lt
  · exact rowB_lt h.row i hi
theorem GrM.lt {w : World} {A : Nat → Addr} {v : Value} {S : List Nat} {g : Gr} (h : GrM w A v S g) : ∀ i ∈ S, i < w.heap.size := by
  obtain ⟨p, m, u, N, D, h⟩ := h
  exact h.lt
theorem GrAt.keep {w w' : World} {A : Nat → Addr} {v : Value} {S T : List Nat} {g : Gr} {p m : Nat} {u : Value} {N : Nat} {D : DataW Unit} (h : GrAt w A v S g p m u N D) (hc : Chg T w w') (hd : ∀ i ∈ S, i ∉ T) : GrAt w' A v S g p m u N D := by
  have hp : p ∈ S := by rw [h.foot]; simp
  have hm : m ∈ S := by rw [h.foot]; simp
  have kp := fun o => hc.cell (o := o) (h.lt p hp) (hd p hp)
  exact { h with
    c0 := (kp 0).trans h.c0
    c1 := (kp 1).trans h.c1
    c2 := (kp 2).trans h.c2
    c3 := (kp 3).trans h.c3
    fr := fun i => (World.frozen?_of_block (a := ⟨p, i, none⟩) (hc.block p (h.lt p hp) (hd p hp))).trans (h.fr i)
    row := own_chg h.row hc (fun k hk => hd k (by rw [h.foot]; simp [mem_rowB, hk]))
    map := by
      obtain ⟨es, clock, h1, h2⟩ := h.map
      exact ⟨es, clock, (hc.block m (h.lt m hm) (hd m hm)).trans h1, h2⟩ }
theorem GrM.keep {w w' : World} {A : Nat → Addr} {v : Value} {S T : List Nat} {g : Gr} (h : GrM w A v S g) (hc : Chg T w w') (hd : ∀ i ∈ S, i ∉ T) : GrM w' A v S g := by
  obtain ⟨p, m, u, N, D, h⟩ := h
  exact ⟨p, m, u, N, D, h.keep hc hd⟩
theorem GrM.below {w w' : World} {A : Nat → Addr} {v : Value} {S : List Nat} {g : Gr} (h : GrM w A v S g) (hb : Below w.heap.size w w') : GrM w' A v S g := h.keep (Chg.of_below (S := []) hb) (by simp)

/-- The document's graph g. -/
structure RgAt (w : World) (v : Value) (S : List Nat) (g : Gr) (p : Nat) (u : Value) : Prop where
  val : v = .pointer (some ⟨p, 0, none⟩)
  foot : S = p :: rowB u
  c0 : w.cell? ⟨p, 0, none⟩ = some (.int .i64 (g.n : Int))
  c1 : w.cell? ⟨p, 1, none⟩ = some u
  c2 : w.cell? ⟨p, 2, none⟩ = some (.int .i64 g.bad)
  fr : ∀ i, w.frozen? ⟨p, i, none⟩ = false
  row : w.ownsRow 0 59 2 u g.ands.length (g.ands.flatMap pcells)
  pu : u.ownBlock ≠ some p
  len : g.len ≤ 8000
  bad : badC g.bad
def RgM (w : World) (v : Value) (S : List Nat) (g : Gr) : Prop := ∃ p u, RgAt w v S g p u
theorem RgAt.lt {w : World} {v : Value} {S : List Nat} {g : Gr} {p : Nat} {u : Value} (h : RgAt w v S g p u) : ∀ i ∈ S, i < w.heap.size := by
  intro i hi
  rw [h.foot] at hi
  simp only [List.mem_cons] at hi
  rcases hi with rfl | hi
  · exact World.block_lt_of_cell? w _ h.c0
  · exact rowB_lt h.row i hi
theorem RgM.lt {w : World} {v : Value} {S : List Nat} {g : Gr} (h : RgM w v S g) : ∀ i ∈ S, i < w.heap.size := by
  obtain ⟨p, u, h⟩ := h
  exact h.lt
theorem RgAt.keep {w w' : World} {v : Value} {S T : List Nat} {g : Gr} {p : Nat} {u : Value} (h : RgAt w v S g p u) (hc : Chg T w w') (hd : ∀ i ∈ S, i ∉ T) : RgAt w' v S g p u := by
  have hp : p ∈ S := by rw [h.foot]; simp
  have kp := fun o => hc.cell (o := o) (h.lt p hp) (hd p hp)
  exact { h with
    c0 := (kp 0).trans h.c0
    c1 := (kp 1).trans h.c1
    c2 := (kp 2).trans h.c2
    fr := fun i => (World.frozen?_of_block (a := ⟨p, i, none⟩) (hc.block p (h.lt p hp) (hd p hp))).trans (h.fr i)
    row := own_chg h.row hc (fun k hk => hd k (by rw [h.foot]; simp [mem_rowB, hk])) }
theorem RgM.keep {w w' : World} {v : Value} {S T : List Nat} {g : Gr} (h : RgM w v S g) (hc : Chg T w w') (hd : ∀ i ∈ S, i ∉ T) : RgM w' v S g := by
  obtain ⟨p, u, h⟩ := h
  exact ⟨p, u, h.keep hc hd⟩
theorem RgM.below {w w' : World} {v : Value} {S : List Nat} {g : Gr} (h : RgM w v S g) (hb : Below w.heap.size w w') : RgM w' v S g := h.keep (Chg.of_below (S := []) hb) (by simp)
end Go.Proofs.YtmgepagdkfghlaaDoor
