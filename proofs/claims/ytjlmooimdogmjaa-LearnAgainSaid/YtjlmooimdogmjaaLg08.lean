/- Stores into cells and owned rows. No conditions beyond those typed. · A prop in memory: which block is whose ('Rl': a role for each), what lies in each ('At'), and the whole ('MA'); what a turn of one block leaves of the others. No conditions beyond those typed. · Contracts of prop's small functions, that only read: is, Value, Level, LevelOf, known, Reason, of, watchers, falseFrom. Conditions: 64-bit ints; the prop lies in memory as 'MA' says. -/
import Derived.Test.YtjlmooimdogmjaaLg07
import Derived.Test.YtjlmooimdogmjaaLg06
import Derived.Test.YtjlmooimdogmjaaLg00
import Derived.Maps.OwnSet
import Derived.Maps.OwnOps
import Derived.Test.YtjlmooimdogmjaaChecked
import Derived.IntWalk
import Derived.Deep.QuietTactic
import Derived.BigQuiet
import Derived.RegionTactic
import Derived.Carry
set_option linter.unusedVariables false
set_option linter.unusedSimpArgs false
namespace Go.Proofs.Ytjlmooimdogmjaa
open Go.RowKit

theorem set_at {W : World} {b i : Nat} {v u : Value} (h : W.cell? ⟨b, i, none⟩ = some v) : (W.setCell ⟨b, i, none⟩ u).cell? ⟨b, i, none⟩ = some u := World.cell?_setCell_same (w := W) (h := h) ..
theorem set_off {W : World} {b i b' j : Nat} {u : Value} (h : b ≠ b' ∨ i ≠ j) : (W.setCell ⟨b, i, none⟩ u).cell? ⟨b', j, none⟩ = W.cell? ⟨b', j, none⟩ :=
  World.cell?_setCell_other (w := W) (h := fun e => by injection e with e1 e2; exact h.elim (fun h => h e1) (fun h => h e2)) ..
theorem set_fr {W : World} {x : Addr} {u : Value} {y : Addr} (h : W.frozen? y = false) : (W.setCell x u).frozen? y = false := (World.frozen?_setCell _ _ _ _).trans h

/-- A store into an owned row. -/
theorem own_setAt {w : World} {B : Nat} {e : TypeId} {size g n cap : Nat} {xs : List Value} (h : w.ownsRow B e size (.slice (some ⟨g, 0, none⟩) n cap) n xs) (i : Nat) (u : Value) (_hi : i < xs.length) : (w.setCell ⟨g, i, none⟩ u).ownsRow B e size (.slice (some ⟨g, 0, none⟩) n cap) n (xs.set i u) := by
  obtain ⟨h1, h2⟩ := h
  refine ⟨by simpa using h1, ?_⟩
  rcases h2 with ⟨e0, _⟩ | ⟨g', cap', cur, hv, hg, hh, k1, k2, k3, k4⟩
  · cases e0
  · injection hv with e1 e2 e3
    injection e1 with e1
    injection e1 with e1 _ _
    subst e1; subst e3
    refine .inr ⟨g, cap, cur.setIfInBounds i u, rfl, hg, ?_, k1, k2, by simpa using k3, ?_⟩
    · have hlt : g < w.heap.size := by
        rcases Nat.lt_or_ge g w.heap.size with h' | h'
        · exact h'
        · rw [Array.getElem?_eq_none h'] at hh; cases hh
      have h' : w.heap[g] = .cells cur e (0, 0) := by simpa [Array.getElem?_eq_getElem hlt] using hh
      show (w.heap.modify g _)[g]? = _
      rw [Array.getElem?_eq_getElem (by simpa using hlt), Array.getElem_modify_self, h']
      rfl
    · rw [← k4, Array.toList_setIfInBounds, List.take_set]
theorem own_frozen {w : World} {B : Nat} {e : TypeId} {size g n cap : Nat} {xs : List Value} (h : w.ownsRow B e size (.slice (some ⟨g, 0, none⟩) n cap) n xs) (i : Nat) : w.frozen? ⟨g, i, none⟩ = false := by
  rcases h.2 with ⟨e0, _⟩ | ⟨g', cap', cur, e0, _, hg, _⟩
  · cases e0
  · injection e0 with e0 _ _
    injection e0 with e0
    injection e0 with e0
    subst e0
    simp [World.frozen?, hg]
theorem own_cell {w : World} {B : Nat} {e : TypeId} {size g n cap : Nat} {xs : List Value} (h : w.ownsRow B e size (.slice (some ⟨g, 0, none⟩) n cap) n xs) {i : Nat} {u : Value} (hu : xs[i]? = some u) : w.cell? ⟨g, i, none⟩ = some u := by
  have := h.cells (g := g) rfl i u hu
  rwa [show (⟨g, 0, none⟩ : Addr).add i = ⟨g, i, none⟩ by unfold Addr.add; split <;> simp_all] at this
theorem own_cap {w : World} {B : Nat} {e : TypeId} {size g n cap : Nat} {xs : List Value} (h : w.ownsRow B e size (.slice (some ⟨g, 0, none⟩) n cap) n xs) : n ≤ cap ∧ cap ≤ maxLen := by
  rcases h.2 with ⟨e0, _⟩ | ⟨g', cap', cur, e0, _, _, h1, h2, _⟩
  · cases e0
  · injection e0 with _ _ e3
    subst e3
    exact ⟨h1, h2⟩
theorem own_at {w : World} {B : Nat} {e : TypeId} {size n : Nat} {v : Value} {xs : List Value} (h : w.ownsRow B e size v n xs) (hn : 0 < n) : ∃ g cap, v = .slice (some ⟨g, 0, none⟩) n cap := by
  rcases h.2 with ⟨_, e1⟩ | ⟨g, cap, cur, hv, _⟩
  · omega
  · exact ⟨g, cap, hv⟩
theorem own_lt {w : World} {B : Nat} {e : TypeId} {size g n cap : Nat} {xs : List Value} (h : w.ownsRow B e size (.slice (some ⟨g, 0, none⟩) n cap) n xs) : B ≤ g ∧ g < w.heap.size := h.lt g rfl

end Go.Proofs.Ytjlmooimdogmjaa

namespace Go.Proofs.Ytjlmooimdogmjaa
open Go.RowKit

inductive Rl where
  | p | a | v | mp | tr | st | td | w (j : Nat) | l (v : Nat) | c (i : Nat) | d (i : Nat)

structure Lay where
  p : Nat
  ap : Nat
  aq : Nat
  vb : Nat
  vc : Nat
  mb : Nat
  trv : Value
  stv : Value
  tdv : Value
  wv : Nat → Value
  lw : Nat → Value
  cb : Nat → Nat
  cv : Nat → Value

def ptrC (L : Lay) (i : Nat) : Value := .pointer (some ⟨L.cb i, 0, none⟩)
def ptrO (L : Lay) : Option Nat → Value
  | none => .pointer none
  | some i => ptrC L i
def nilS : Value := .slice none 0 0
/-- A variable's cells. -/
def vcell (L : Lay) (m : Mc) (v : Nat) : Nat → Value
  | 0 => .int .i64 (m.lv v : Int)
  | 1 => ptrO L (m.rs v)
  | 2 => L.wv (2 * v)
  | 3 => L.wv (2 * v + 1)
  | _ => L.lw v
def vcells (L : Lay) (m : Mc) : List Value := (List.range ((m.n + 1) * 5)).map fun i => vcell L m (i / 5) (i % 5)
theorem vcells_len (L : Lay) (m : Mc) : (vcells L m).length = (m.n + 1) * 5 := by unfold vcells; simp
theorem vcells_at (L : Lay) (m : Mc) (i : Nat) (h : i < (vcells L m).length) : (vcells L m)[i] = vcell L m (i / 5) (i % 5) := by simp [vcells]
theorem vcells_get (L : Lay) (m : Mc) {v k : Nat} (hv : v ≤ m.n) (hk : k < 5) : (vcells L m)[v * 5 + k]? = some (vcell L m v k) := by
  have h1 : v * 5 + k < (vcells L m).length := by rw [vcells_len]; omega
  rw [List.getElem?_eq_getElem h1, vcells_at, show (v * 5 + k) / 5 = v by omega, show (v * 5 + k) % 5 = k by omega]
theorem vcells_set {L L' : Lay} {m m' : Mc} {v k : Nat} (hk : k < 5) (hn : m'.n = m.n) (h : ∀ x y, y < 5 → ¬(x = v ∧ y = k) → vcell L' m' x y = vcell L m x y) : (vcells L m).set (v * 5 + k) (vcell L' m' v k) = vcells L' m' := by
  apply List.ext_getElem (by rw [List.length_set, vcells_len, vcells_len, hn])
  intro i h1 h2
  rw [List.getElem_set, vcells_at]
  split
  · rename_i e
    subst e
    rw [vcells_at, show (v * 5 + k) / 5 = v by omega, show (v * 5 + k) % 5 = k by omega]
  · rename_i e
    rw [vcells_at]
    exact (h (i / 5) (i % 5) (by omega) (fun ⟨e1, e2⟩ => e (by omega))).symm

/-- How a pointer in the map reads. -/
def ptrElem : Value → Option (DataW Nat × List MemPlace)
  | .pointer none => some (.nil, [])
  | .pointer (some ⟨b, 0, none⟩) => some (.held b, [])
  | _ => none
theorem ptrElem_inv_nil {v : Value} {ps : List MemPlace} (h : ptrElem v = some (.nil, ps)) : v = .pointer none := by
  unfold ptrElem at h
  split at h
  · rfl
  · cases h
  · cases h
theorem ptrElem_inv {v : Value} {b : Nat} {ps : List MemPlace} (h : ptrElem v = some (.held b, ps)) : v = .pointer (some ⟨b, 0, none⟩) := by
  unfold ptrElem at h
  split at h
  · cases h
  · injection h with h
    injection h with h _
    injection h with h
    subst h; rfl
  · cases h

def atC (mp : Nat → Bool) (cb : Nat → Nat) (i : Int) : DataW Nat := if 0 ≤ i ∧ mp i.toNat = true then .held (cb i.toNat) else .nil
def MapC (w : World) (mb nx : Nat) (mp : Nat → Bool) (cb : Nat → Nat) : Prop := ∃ N D, w.ownsMap (H := Nat) Try.prog 3 ptrElem mb N D ∧ N ≤ nx ∧ ∀ i : Int, -9223372036854775808 ≤ i → i ≤ 9223372036854775807 → D.atKey (.int .i64 i) .nil = atC mp cb i

structure PropC (w : World) (L : Lay) (n told nx : Nat) : Prop where
  c0 : w.cell? ⟨L.p, 0, none⟩ = some (.pointer (some ⟨L.ap, 0, none⟩))
  c1 : w.cell? ⟨L.p, 1, none⟩ = some (.slice (some ⟨L.vb, 0, none⟩) (n + 1) L.vc)
  c2 : w.cell? ⟨L.p, 2, none⟩ = some L.trv
  c3 : w.cell? ⟨L.p, 3, none⟩ = some (.int .i64 (told : Int))
  c4 : w.cell? ⟨L.p, 4, none⟩ = some L.stv
  c5 : w.cell? ⟨L.p, 5, none⟩ = some (.map (some L.mb))
  c6 : w.cell? ⟨L.p, 6, none⟩ = some (.int .i64 (nx : Int))
  c7 : w.cell? ⟨L.p, 7, none⟩ = some L.tdv
  fr : ∀ i, w.frozen? ⟨L.p, i, none⟩ = false

def RolA (ρ : Nat → Option Rl) (w : World) (r : Rl) (e : TypeId) (v : Value) (xs : List Value) : Prop := w.ownsRow 0 e 1 v xs.length xs ∧ ∀ k, v.ownBlock = some k → ρ k = some r

def At (ρ : Nat → Option Rl) (w : World) (L : Lay) (m : Mc) : Rl → Prop
  | .p => ρ L.p = some .p ∧ PropC w L m.n m.told m.nx
  | .a => ρ L.ap = some .a ∧ ρ L.aq = some .a ∧ Asg w 0 (.pointer (some ⟨L.ap, 0, none⟩)) L.ap L.aq m.vs
  | .v => ρ L.vb = some .v ∧ w.ownsRow 0 71 5 (.slice (some ⟨L.vb, 0, none⟩) (m.n + 1) L.vc) (m.n + 1) (vcells L m)
  | .mp => ρ L.mb = some .mp ∧ MapC w L.mb m.nx m.mp L.cb
  | .tr => RolA ρ w .tr 3 L.trv (m.tr.map (Value.int .i64))
  | .st => RolA ρ w .st 3 L.stv (m.st.map fun (s : Nat) => Value.int .i64 (s : Int))
  | .td => RolA ρ w .td 68 L.tdv (m.td.map (ptrC L))
  | .w j => RolA ρ w (.w j) 68 (L.wv j) ((m.wt j).map (ptrC L))
  | .l v => RolA ρ w (.l v) 68 (L.lw v) ((m.lt v).map (ptrC L))
  | .c i => ∀ c, m.cl i = some c → ρ (L.cb i) = some (.c i) ∧ w.heap[L.cb i]? = some (.cells #[.int .i64 (i : Int), L.cv i] 77 (0, 0))
  | .d i => ∀ c, m.cl i = some c → RolA ρ w (.d i) 3 (L.cv i) (c.map (Value.int .i64))

structure MA (w : World) (ρ : Nat → Option Rl) (L : Lay) (m : Mc) : Prop where
  lt : ∀ b r, ρ b = some r → b < w.heap.size
  hi : ∀ v, m.n < v → L.wv (2 * v) = nilS ∧ L.wv (2 * v + 1) = nilS ∧ L.lw v = nilS ∧ m.lv v = 0 ∧ m.rs v = none
  at' : ∀ r, At ρ w L m r

/-- Of what was there only blocks with a role may have turned, and only new ones have come to have one. -/
structure Chr (ρ : Nat → Option Rl) (w : World) (ρ' : Nat → Option Rl) (w' : World) : Prop where
  os : w'.os = w.os
  tape : w'.tape = w.tape
  output : w'.output = w.output
  size : w.heap.size ≤ w'.heap.size
  block : ∀ i, i < w.heap.size → ρ i = none → w'.heap[i]? = w.heap[i]?
  old : ∀ i, i < w.heap.size → ρ i = none → ρ' i = none
section
variable {w w' w'' : World} {ρ ρ' ρ'' : Nat → Option Rl} {L L' : Lay} {m m' : Mc}
theorem Chr.refl (ρ : Nat → Option Rl) (w : World) : Chr ρ w ρ w := ⟨rfl, rfl, rfl, Nat.le_refl _, fun _ _ _ => rfl, fun _ _ h => h⟩
theorem Chr.trans (h : Chr ρ w ρ' w') (k : Chr ρ' w' ρ'' w'') : Chr ρ w ρ'' w'' :=
  ⟨k.os.trans h.os, k.tape.trans h.tape, k.output.trans h.output, Nat.le_trans h.size k.size,
    fun i hi hn => (k.block i (Nat.lt_of_lt_of_le hi h.size) (h.old i hi hn)).trans (h.block i hi hn),
    fun i hi hn => k.old i (Nat.lt_of_lt_of_le hi h.size) (h.old i hi hn)⟩
theorem Chr.of_below (hb : Below w.heap.size w w') : Chr ρ w ρ w' := ⟨hb.os, hb.tape, hb.output, hb.size, fun i hi _ => hb.block i hi, fun _ _ h => h⟩
theorem Chr.drewN (h : Chr ρ w ρ' w') (k : Nat) : Chr ρ w ρ' (w'.drewN k) := h.trans (Chr.of_below (below_draws ⟨k, rfl⟩))
/-- Only block b, which has a role, has turned. -/
theorem Chr.of_only {b : Nat} {r : Rl} (hr : ρ b = some r) (h : Only b w w') : Chr ρ w ρ w' :=
  ⟨h.os, h.tape, h.output, h.size, fun i hi hn => h.block i hi (fun e => by injection e with e; rw [e, hr] at hn; cases hn), fun _ _ h => h⟩
theorem Chr.setCell (h : Chr ρ w ρ' w') {b o : Nat} {r : Rl} (hr : ρ' b = some r) (u : Value) : Chr ρ w ρ' (w'.setCell ⟨b, o, none⟩ u) := h.trans (Chr.of_only hr (Only.setCell _ _ _ _))

theorem row_keep {r : Rl} {e : TypeId} {v : Value} {xs : List Value} (h : RolA ρ w r e v xs) (hk : ∀ b, ρ b = some r → ρ' b = some r ∧ w'.heap[b]? = w.heap[b]?) : RolA ρ' w' r e v xs := by
  obtain ⟨⟨h1, h2⟩, h3⟩ := h
  refine ⟨⟨h1, ?_⟩, fun k hk' => (hk k (h3 k hk')).1⟩
  rcases h2 with h2 | ⟨g, cap, cur, hv, hg, hh, q⟩
  · exact .inl h2
  · exact .inr ⟨g, cap, cur, hv, hg, ((hk g (h3 g (by rw [hv]; rfl))).2).trans hh, q⟩
theorem PropC.keep {n told nx : Nat} (h : PropC w L n told nx) (hk : w'.heap[L.p]? = w.heap[L.p]?) : PropC w' L n told nx := by
  have hc : ∀ o, w'.cell? ⟨L.p, o, none⟩ = w.cell? ⟨L.p, o, none⟩ := fun o => World.cell?_of_block (a := ⟨L.p, o, none⟩) hk
  exact ⟨(hc _).trans h.c0, (hc _).trans h.c1, (hc _).trans h.c2, (hc _).trans h.c3, (hc _).trans h.c4, (hc _).trans h.c5, (hc _).trans h.c6, (hc _).trans h.c7, fun i => (World.frozen?_of_block (a := ⟨L.p, i, none⟩) hk).trans (h.fr i)⟩
theorem MapC.keep {mb nx : Nat} {mp : Nat → Bool} {cb : Nat → Nat} (h : MapC w mb nx mp cb) (hk : w'.heap[mb]? = w.heap[mb]?) : MapC w' mb nx mp cb := by
  obtain ⟨N, D, ⟨es, clock, h1, h2⟩, h3⟩ := h
  exact ⟨N, D, ⟨es, clock, hk.trans h1, h2⟩, h3⟩
theorem own_block {B : Nat} {e : TypeId} {size g n cap : Nat} {xs : List Value} (h : w.ownsRow B e size (.slice (some ⟨g, 0, none⟩) n cap) n xs) (hk : w'.heap[g]? = w.heap[g]?) : w'.ownsRow B e size (.slice (some ⟨g, 0, none⟩) n cap) n xs := by
  obtain ⟨h1, h2⟩ := h
  refine ⟨h1, ?_⟩
  rcases h2 with h2 | ⟨g', cap', cur, hv, hg, hh, q⟩
  · exact .inl h2
  · injection hv with e1 _ e3
    injection e1 with e1
    injection e1 with e1
    subst e1; subst e3
    exact .inr ⟨g, cap, cur, rfl, hg, hk.trans hh, q⟩
theorem At.keep {r : Rl} (hlt : ∀ b, ρ b = some r → b < w.heap.size) (hs : w.heap.size ≤ w'.heap.size) (h : At ρ w L m r) (hk : ∀ b, ρ b = some r → ρ' b = some r ∧ w'.heap[b]? = w.heap[b]?) : At ρ' w' L m r := by
  cases r with
  | p => exact ⟨(hk _ h.1).1, h.2.keep (hk _ h.1).2⟩
  | a => exact ⟨(hk _ h.1).1, (hk _ h.2.1).1, h.2.2.keepB hs (hk _ h.1).2 (hk _ h.2.1).2⟩
  | v => exact ⟨(hk _ h.1).1, own_block h.2 (hk _ h.1).2⟩
  | mp => exact ⟨(hk _ h.1).1, h.2.keep (hk _ h.1).2⟩
  | tr => exact row_keep h hk
  | st => exact row_keep h hk
  | td => exact row_keep h hk
  | w j => exact row_keep h hk
  | l v => exact row_keep h hk
  | c i =>
    intro c hc
    obtain ⟨h1, h2⟩ := h c hc
    exact ⟨(hk _ h1).1, (hk _ h1).2.trans h2⟩
  | d i => exact fun c hc => row_keep (h c hc) hk
/-- Nothing of it has turned. -/
theorem MA.same (h : MA w ρ L m) (hs : w.heap.size ≤ w'.heap.size) (hk : ∀ b r, ρ b = some r → w'.heap[b]? = w.heap[b]?) : MA w' ρ L m :=
  ⟨fun b r hb => Nat.lt_of_lt_of_le (h.lt b r hb) hs, h.hi, fun r => (h.at' r).keep (fun b hb => h.lt b r hb) hs fun b hb => ⟨hb, hk b r hb⟩⟩
theorem MA.below (h : MA w ρ L m) (hb : Below w.heap.size w w') : MA w' ρ L m := h.same hb.size fun b r hr => hb.block b (h.lt b r hr)
theorem MA.drewN (h : MA w ρ L m) (k : Nat) : MA (w.drewN k) ρ L m := h.below (below_draws ⟨k, rfl⟩)
/-- Only block b has turned: the other roles' memory is as it was. -/
theorem MA.rest {b : Nat} {r0 : Rl} (h : MA w ρ L m) (hr : ρ b = some r0) (ho : Only b w w') {r : Rl} (hne : r ≠ r0) : At ρ w' L m r :=
  (h.at' r).keep (fun b hb => h.lt b r hb) ho.size fun b' hb' => ⟨hb', ho.block b' (h.lt b' r hb') (fun e => by injection e with e; subst e; rw [hr] at hb'; injection hb' with hb'; exact hne hb'.symm)⟩
theorem MA.lt' (h : MA w ρ L m) (hs : w.heap.size ≤ w'.heap.size) : ∀ b r, ρ b = some r → b < w'.heap.size := fun b r hb => Nat.lt_of_lt_of_le (h.lt b r hb) hs
theorem only_size {b : Nat} (h : Only b w w') : w.heap.size ≤ w'.heap.size := h.size

theorem MA.pc (h : MA w ρ L m) : PropC w L m.n m.told m.nx := (h.at' .p).2
theorem MA.asg (h : MA w ρ L m) : Asg w 0 (.pointer (some ⟨L.ap, 0, none⟩)) L.ap L.aq m.vs := (h.at' .a).2.2
theorem MA.var (h : MA w ρ L m) {v k : Nat} (hv : v ≤ m.n) (hk : k < 5) : w.cell? ⟨L.vb, v * 5 + k, none⟩ = some (vcell L m v k) := own_cell (h.at' .v).2 (vcells_get L m hv hk)
theorem MA.varF (h : MA w ρ L m) (i : Nat) : w.frozen? ⟨L.vb, i, none⟩ = false := own_frozen (h.at' .v).2 i
end
end Go.Proofs.Ytjlmooimdogmjaa

namespace Go.Proofs.Ytjlmooimdogmjaa
open Go.RowKit

def ptrP (L : Lay) : Value := .pointer (some ⟨L.p, 0, none⟩)
def isM (n : Nat) (l : Int) : Bool := decide (1 ≤ absI l) && decide (absI l ≤ (n : Int))
theorem isM_iff {n : Nat} {l : Int} : isM n l = true ↔ 1 ≤ plc l ∧ plc l ≤ n := by
  unfold isM
  have := plc_abs l
  simp
  omega
section
variable {w : World} {ρ : Nat → Option Rl} {L : Lay} {m : Mc}

set_option maxRecDepth 8000 in
set_option maxHeartbeats 400000 in
theorem mis_any (h : MA w ρ L m) (l : Int) (h1 : -9223372036854775807 ≤ l) (h2 : l ≤ 9223372036854775807) (hn : m.n ≤ 4000) :
    Calls Try.prog 44 #[ptrP L, .int .i64 l] w fun e w' => e = .returned (.bool (isM m.n l)) ∧ w = w' := by
  have HI := Lib.hid (is_any l (m.n : Int) w h1 h2)
  have c1 := h.pc.c1
  have HU : Hid (isM m.n l = (decide (1 ≤ absI l) && decide (absI l ≤ (m.n : Int)))) := rfl
  clear h
  unfold ptrP
  generalize m.n = n at *
  go_enter Try.func44, Try.ntmps44
  go_wp2_with fail
  refine HI.out.mono ?_
  rintro e w' ⟨rfl, rfl⟩
  go_wp2_with fail
  go_ret
  exact ⟨ret_bool HU.out.symm, rfl⟩

set_option maxRecDepth 8000 in
set_option maxHeartbeats 400000 in
theorem mval_any (h : MA w ρ L m) (l : Int) (h1 : -9223372036854775807 ≤ l) (h2 : l ≤ 9223372036854775807) :
    Calls Try.prog 11 #[ptrP L, .int .i64 l] w fun e w' => e = .returned (.int .i64 (valL m.vs l)) ∧ w = w' := by
  have HI := Lib.hid (value_any h.asg l h1 h2)
  have c0 := h.pc.c0
  clear h
  unfold ptrP
  generalize valL m.vs l = x at *
  go_enter Try.func11, Try.ntmps11
  go_wp2_with fail
  refine HI.out.mono ?_
  rintro e w' ⟨rfl, rfl⟩
  go_wp2_with fail
  go_ret
  exact ⟨rfl, rfl⟩

theorem ro_shape {r : Rl} {e : TypeId} {v : Value} {xs : List Value} (h : RolA ρ w r e v xs) : ∃ a c, v = .slice a xs.length c ∧ xs.length ≤ c ∧ c ≤ maxLen := own_shape h.1

set_option maxRecDepth 8000 in
set_option maxHeartbeats 400000 in
theorem mlvl_any (h : MA w ρ L m) :
    Calls Try.prog 15 #[ptrP L] w fun e w' => e = .returned (.int .i64 (m.st.length : Int)) ∧ w = w' := by
  have c4 := h.pc.c4
  obtain ⟨a, c, e, _⟩ := ro_shape (h.at' .st)
  rw [e, List.length_map] at c4
  clear h e
  unfold ptrP
  generalize m.st.length = k at *
  go_enter Try.func15, Try.ntmps15
  go_wp2
  go_ret
  exact ⟨rfl, rfl⟩

def knownM (m : Mc) (x : Int) : Bool := decide (0 < x) && !(valL m.vs x == 0)

set_option maxRecDepth 8000 in
set_option maxHeartbeats 400000 in
theorem mkno_any (h : MA w ρ L m) (x : Int) (h1 : -9223372036854775807 ≤ x) (h2 : x ≤ 9223372036854775807) :
    Calls Try.prog 38 #[ptrP L, .int .i64 x] w fun e w' => e = .returned (.bool (knownM m x)) ∧ w = w' := by
  have HI := Lib.hid (mval_any h x h1 h2)
  have HU : Hid (knownM m x = (decide (0 < x) && !(valL m.vs x == 0))) := rfl
  clear h
  generalize valL m.vs x = y at *
  cases hp : decide (0 < x) with
  | false =>
    rw [hp] at HU
    go_enter Try.func38, Try.ntmps38
    go_wp2_with fail
    go_ret
    exact ⟨ret_bool HU.out.symm, rfl⟩
  | true =>
    rw [hp] at HU
    go_enter Try.func38, Try.ntmps38
    go_wp2_with fail
    refine HI.out.mono ?_
    rintro e w' ⟨rfl, rfl⟩
    go_wp2_with fail
    go_ret
    exact ⟨ret_bool (by rw [HU.out]; cases hy : (y == 0) <;> simp_all), rfl⟩

set_option maxRecDepth 8000 in
set_option maxHeartbeats 400000 in
theorem mlev_any (h : MA w ρ L m) (x : Int) (h1 : -9223372036854775807 ≤ x) (h2 : x ≤ 9223372036854775807) (hk : knownM m x = true → x ≤ (m.n : Int)) (hn : m.n ≤ 4000) :
    Calls Try.prog 12 #[ptrP L, .int .i64 x] w fun e w' => e = .returned (.int .i64 (if knownM m x = true then (m.lv x.toNat : Int) else -1)) ∧ w = w' := by
  have HI := Lib.hid (mkno_any h x h1 h2)
  cases hb : knownM m x with
  | false =>
    rw [hb] at HI
    clear h hk hb
    go_enter Try.func12, Try.ntmps12
    go_wp2_with fail
    refine HI.out.mono ?_
    rintro e w' ⟨rfl, rfl⟩
    go_wp2_with fail
    go_ret
    exact ⟨rfl, rfl⟩
  | true =>
    rw [hb] at HI
    rw [if_pos rfl]
    have hx := hk hb
    have h0 : 0 < x := by unfold knownM at hb; simp at hb; exact hb.1
    obtain ⟨v, rfl⟩ := Int.eq_ofNat_of_zero_le (show 0 ≤ x by omega)
    have c1 := h.pc.c1
    have g0 := h.var (v := v) (k := 0) (by omega) (by omega)
    rw [show vcell L m v 0 = .int .i64 (m.lv v : Int) from rfl, Nat.add_zero] at g0
    rw [Int.toNat_natCast]
    have hv : v < m.n + 1 := by omega
    clear h hk hb hx
    unfold ptrP at *
    generalize m.lv v = y at *
    generalize m.n = n at *
    go_enter Try.func12, Try.ntmps12
    go_wp2_with fail
    refine HI.out.mono ?_
    rintro e w' ⟨rfl, rfl⟩
    go_wp2_with fail
    go_ret
    exact ⟨rfl, rfl⟩

set_option maxRecDepth 8000 in
set_option maxHeartbeats 1000000 in
theorem mof_any (h : MA w ρ L m) (l : Int) (hl : plc l ≤ m.n) (hn : m.n ≤ 4000) :
    Calls Try.prog 42 #[ptrP L, .int .i64 l] w fun e w' => e = .returned (.pointer (some ⟨L.vb, plc l * 5, none⟩)) ∧ ∃ t, w' = w.drewN t := by
  have e := plc_abs l
  have hb : -4000 ≤ l ∧ l ≤ 4000 := by unfold absI at e; split at e <;> omega
  have HV := Lib.hid (fun W => var_any l W (by omega) (by omega))
  rw [← e] at HV
  have c1 := h.pc.c1
  clear h hb
  unfold ptrP
  generalize plc l = v at *
  clear e
  have hv : v < m.n + 1 := by omega
  generalize m.n = n at *
  go_enter Try.func42, Try.ntmps42
  go_wp2_with fail
  go_quiet ((refine (HV.out _).mono ?_; rintro e w' ⟨rfl, rfl⟩; exact ⟨rfl, _, rfl⟩))
  go_wp2
  go_ret
  exact ⟨rfl, _, rfl⟩

set_option maxRecDepth 8000 in
set_option maxHeartbeats 1000000 in
theorem mwat_any (h : MA w ρ L m) (l : Int) (hl : plc l ≤ m.n) (hn : m.n ≤ 4000) :
    Calls Try.prog 70 #[ptrP L, .int .i64 l] w fun e w' => e = .returned (.pointer (some ⟨L.vb, plc l * 5 + (if l < 0 then 3 else 2), none⟩)) ∧ ∃ t, w' = w.drewN t := by
  have HO := Lib.hid (mof_any h l hl hn)
  clear h
  by_cases h0 : l < 0
  · rw [if_pos h0]
    go_enter Try.func70, Try.ntmps70
    go_wp2_with fail
    refine HO.out.mono ?_
    rintro e w' ⟨rfl, t, rfl⟩
    go_wp2_with fail
    go_ret
    exact ⟨rfl, _, rfl⟩
  · rw [if_neg h0]
    go_enter Try.func70, Try.ntmps70
    go_wp2_with fail
    refine HO.out.mono ?_
    rintro e w' ⟨rfl, t, rfl⟩
    go_wp2_with fail
    go_ret
    exact ⟨rfl, _, rfl⟩

def ffM (m : Mc) (l : Int) : Nat := if valL m.vs l = 2 then m.lv (plc l) else m.st.length + 1

set_option maxRecDepth 8000 in
set_option maxHeartbeats 1000000 in
theorem mff_any (h : MA w ρ L m) (l : Int) (hl : plc l ≤ m.n) (hn : m.n ≤ 4000) (hs : m.st.length ≤ 4000) :
    Calls Try.prog 84 #[ptrP L, .int .i64 l] w fun e w' => e = .returned (.int .i64 (ffM m l : Int)) ∧ ∃ t, w' = w.drewN t := by
  have e := plc_abs l
  have hb : -4000 ≤ l ∧ l ≤ 4000 := by unfold absI at e; split at e <;> omega
  have HV := Lib.hid (mval_any h l (by omega) (by omega))
  have HL := Lib.hid (mlvl_any h)
  have HO := Lib.hid (mof_any h l hl hn)
  have g0 := h.var (v := plc l) (k := 0) hl (by omega)
  rw [show vcell L m (plc l) 0 = .int .i64 (m.lv (plc l) : Int) from rfl, Nat.add_zero] at g0
  have HF : Hid (ffM m l = if valL m.vs l = 2 then m.lv (plc l) else m.st.length + 1) := rfl
  rw [HF.out]
  clear h e hb hl hn
  generalize m.st.length = k at *
  generalize m.lv (plc l) = y at *
  generalize valL m.vs l = x at *
  by_cases hx : x = 2
  · rw [if_pos hx]
    have hx' : (x == 2) = true := by simp [hx]
    have hx2 : (x != 2) = false := by simp [hx]
    clear hx
    go_enter Try.func84, Try.ntmps84
    go_wp2_with fail
    refine HV.out.mono ?_
    rintro e w' ⟨rfl, rfl⟩
    go_wp2_with fail
    refine HO.out.mono ?_
    rintro e w' ⟨rfl, t, rfl⟩
    go_wp2_with fail
    go_ret
    exact ⟨rfl, _, rfl⟩
  · rw [if_neg hx]
    have hx' : (x == 2) = false := by simp [hx]
    have hx2 : (x != 2) = true := by simp [hx]
    clear hx
    go_enter Try.func84, Try.ntmps84
    go_wp2_with fail
    refine HV.out.mono ?_
    rintro e w' ⟨rfl, rfl⟩
    go_wp2_with fail
    refine HL.out.mono ?_
    rintro e w' ⟨rfl, rfl⟩
    go_wp2_with fail
    go_ret
    exact ⟨ret_int (by omega), 0, rfl⟩

end
end Go.Proofs.Ytjlmooimdogmjaa
