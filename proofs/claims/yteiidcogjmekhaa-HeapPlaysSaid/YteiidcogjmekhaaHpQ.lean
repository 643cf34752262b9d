/- Two heaps of the call's own side by side, the program's and the document's ('PSt'): what each call leaves; what is told to a heap, as it lies in memory. Conditions: the numbers are 64-bit ints, 60 variables at most. -/
import Derived.Test.YteiidcogjmekhaaHpF
import Derived.Test.YteiidcogjmekhaaHrP
import Derived.Test.YteiidcogjmekhaaOpen
import Derived.Test.YteiidcogjmekhaaRows
import Derived.OpenShut
import Derived.Deep.Slices
namespace Go.Proofs.Yteiidcogjmekhaa
open Go.RowKit

def PSt (w0 : World) (v x : Value) (h g : Hp) (W : World) : Prop := ∃ S R, HpS W v S h ∧ RpS W x R g ∧ Below w0.heap.size w0 W ∧ (∀ i ∈ S, w0.heap.size ≤ i) ∧ (∀ i ∈ R, w0.heap.size ≤ i) ∧ ∀ i ∈ S, i ∉ R
theorem PSt.bel {w0 : World} {v x : Value} {h g : Hp} {W : World} (p : PSt w0 v x h g W) : Below w0.heap.size w0 W := by
  obtain ⟨S, R, _, _, h, _⟩ := p
  exact h
theorem PSt.wf {w0 : World} {v x : Value} {h g : Hp} {W : World} (p : PSt w0 v x h g W) : HpW h := by
  obtain ⟨S, R, h, _⟩ := p
  exact h.wf
theorem PSt.hst {w0 : World} {v x : Value} {h g : Hp} {W : World} (p : PSt w0 v x h g W) : HSt w0 v h W := by
  obtain ⟨S, R, h1, _, h2, h3, _⟩ := p
  exact ⟨S, h1, h2, h3⟩
theorem PSt.ref {w0 : World} {v x : Value} {h g : Hp} {W : World} (p : PSt w0 v x h g W) : ∃ R, RpS W x R g := by
  obtain ⟨S, R, _, h, _⟩ := p
  exact ⟨R, h⟩
theorem PSt.keep {w0 : World} {v x : Value} {h g : Hp} {W W' : World} (p : PSt w0 v x h g W) (hb : Below W.heap.size W W') : PSt w0 v x h g W' := by
  obtain ⟨S, R, h1, h2, h3, h4, h5, h6⟩ := p
  exact ⟨S, R, h1.below hb, h2.below hb, h3.trans (hb.mono h3.size), h4, h5, h6⟩
theorem PSt.start {w0 : World} {v x : Value} {h g : Hp} {W W' : World} {R : List Nat} (p : HSt w0 v h W) (hb : Below W.heap.size W W') (hr : RpS W' x R g) (hR : ∀ i ∈ R, W.heap.size ≤ i) : PSt w0 v x h g W' := by
  obtain ⟨S, h1, h2, h3⟩ := p
  exact ⟨S, R, h1.below hb, hr, h2.trans (hb.mono h2.size), h3, fun i hi => Nat.le_trans h2.size (hR i hi), fun i hi hm => by
    have := h1.lt i hi
    have := hR i hm
    omega⟩
/-! What a call on the one heap does to both. -/
section
variable {w0 : World} {v x : Value} {h g : Hp} {W : World}
theorem psL {r : Value} {h' : Hp} {f : Nat} {args : Array Value} (p : PSt w0 v x h g W) (hc : ∀ S, HpS W v S h → Calls Try.prog f args W (HPost W v S h' r)) : Calls Try.prog f args W fun e w' => e = .returned r ∧ PSt w0 v x h' g w' := by
  obtain ⟨S, R, h1, h2, h3, h4, h5, h6⟩ := p
  refine (hc S h1).mono fun e w' hp => ?_
  obtain ⟨he, ⟨S', hG, hF⟩, hC⟩ := hp
  exact ⟨he, S', R, hG, h2.keep hC (fun i hi hm => h6 i hm hi), hC.below h3 h3.size h4, fun i hi => (hF i hi).elim (h4 i) (fun h' => Nat.le_trans h3.size h'), h5, fun i hi hm => (hF i hi).elim (fun hs => h6 i hs hm) (fun h' => by have := h2.lt i hm; omega)⟩
theorem psR {r : Value} {g' : Hp} {f : Nat} {args : Array Value} (p : PSt w0 v x h g W) (hc : ∀ R, RpS W x R g → Calls Try.prog f args W (RPost W x R g' r)) : Calls Try.prog f args W fun e w' => e = .returned r ∧ PSt w0 v x h g' w' := by
  obtain ⟨S, R, h1, h2, h3, h4, h5, h6⟩ := p
  refine (hc R h2).mono fun e w' hp => ?_
  obtain ⟨he, ⟨R', hG, hF⟩, hC⟩ := hp
  exact ⟨he, S, R', h1.keep hC h6, hG, hC.below h3 h3.size h5, h4, fun i hi => (hF i hi).elim (h5 i) (fun h' => Nat.le_trans h3.size h'), fun i hi hm => (hF i hm).elim (fun hs => h6 i hi hs) (fun h' => by have := h1.lt i hi; omega)⟩
end

/-! ### What is told -/
abbrev Do3 := Int × Int × Int
def Do3At (w : World) (a : Option Addr) (c : Nat) (ds : List Do3) : Prop :=
  ds.length ≤ c ∧ c ≤ maxLen ∧ (ds.length = 0 ∨ ∃ b off, a = some ⟨b, off, none⟩ ∧ b < w.heap.size ∧ ∀ i, i < ds.length → w.cell? ⟨b, off + i * 3, none⟩ = some (.int .i64 (ds.getD i (0, 0, 0)).1) ∧ w.cell? ⟨b, off + i * 3 + 1, none⟩ = some (.int .i64 (ds.getD i (0, 0, 0)).2.1) ∧ w.cell? ⟨b, off + i * 3 + 2, none⟩ = some (.int .i64 (ds.getD i (0, 0, 0)).2.2))
def bd3 (x : Int) : Prop := -9223372036854775808 ≤ x ∧ x ≤ 9223372036854775807

theorem open_do3 {H : Type} {enc : TypeId × Value → H} {W : World} {n : Nat} {v : Value} {y : DataW H × List MemPlace} (h : DataW.trod enc Try.prog W 0 (fun _ => true) true n 22 [v] = some y) :
    ∃ a cap ds, v = .slice a (List.length ds) cap ∧ Do3At W a cap ds ∧ ∀ d ∈ ds, bd3 d.1 ∧ bd3 d.2.1 ∧ bd3 d.2.2 := by
  have ce : Try.prog.cellsOf 29 = 3 := by kernel_rfl
  rcases Deep.open_slice Try.underlying22 h with ⟨hcs, _⟩ | ⟨a, len, cap, m, nn, D, Pl, hcs, _, hl, hm, hmm, _, hx⟩
  · simp at hcs
    subst hcs
    exact ⟨none, 0, [], rfl, ⟨Nat.le_refl _, by unfold maxLen; omega, .inl rfl⟩, by simp⟩
  simp at hcs
  subst hcs
  have hlm : len ≤ m := by rw [hmm]; simp; exact hl
  have hi : ∀ i, i < m → ∃ x : Do3, (W.cell? (a.add (i * 3)) = some (.int .i64 x.1) ∧ W.cell? ((a.add (i * 3)).add 1) = some (.int .i64 x.2.1) ∧ W.cell? ((a.add (i * 3)).add 2) = some (.int .i64 x.2.2)) ∧ bd3 x.1 ∧ bd3 x.2.1 ∧ bd3 x.2.2 := by
    intro i hi
    obtain ⟨cs, h1, h2⟩ := hx i hi
    rw [ce] at h1
    obtain ⟨_, hlen, hcell⟩ := World.cells?_some h1
    obtain ⟨xs, k, _, _, _, hxl, hf⟩ := DataW.trod_struct Try.underlying29 h2
    have hx3 : xs.length = 3 := hxl
    match xs, hx3, cs, hlen with
    | [y0, y1, y2], _, [v0, v1, v2], _ =>
      have g0 := hf 0 _ rfl
      have g1 := hf 1 _ rfl
      have g2 := hf 2 _ rfl
      have c1 : Try.prog.cellsOf 3 = 1 := by kernel_rfl
      simp [c1] at g0 g1 g2
      obtain ⟨z0, e0, _, w0⟩ := DataW.trod_int Try.underlying3 g0
      obtain ⟨z1, e1, _, w1⟩ := DataW.trod_int Try.underlying3 g1
      obtain ⟨z2, e2, _, w2⟩ := DataW.trod_int Try.underlying3 g2
      simp only [List.cons.injEq, and_true] at e0 e1 e2
      subst e0; subst e1; subst e2
      exact ⟨(z0, z1, z2), ⟨by simpa [Addr.add] using hcell 0 (by omega), by simpa using hcell 1 (by omega), by simpa using hcell 2 (by omega)⟩, bounds_i64 w0, bounds_i64 w1, bounds_i64 w2⟩
  let f : Nat → Do3 := fun i => if h : i < m then Classical.choose (hi i h) else (0, 0, 0)
  have hf : ∀ i, i < m → (W.cell? (a.add (i * 3)) = some (.int .i64 (f i).1) ∧ W.cell? ((a.add (i * 3)).add 1) = some (.int .i64 (f i).2.1) ∧ W.cell? ((a.add (i * 3)).add 2) = some (.int .i64 (f i).2.2)) ∧ bd3 (f i).1 ∧ bd3 (f i).2.1 ∧ bd3 (f i).2.2 := by
    intro i h
    have := Classical.choose_spec (hi i h)
    show _ ∧ _
    simp only [f, dif_pos h]
    exact this
  clear_value f
  refine ⟨some a, cap, (List.range len).map f, by simp, ⟨by simpa using hl, hm, ?_⟩, ?_⟩
  · rcases Nat.eq_zero_or_pos len with h0 | h0
    · left; simp [h0]
    · right
      obtain ⟨b, off, spot⟩ := a
      have h1 := (hf 0 (by omega)).1.1
      have hs : spot = none := by simpa [Addr.add] using World.cell?_spot h1
      subst hs
      have he : ∀ (b off i : Nat), (⟨b, off, none⟩ : Addr).add i = ⟨b, off + i, none⟩ := fun b off i => by
        by_cases e : i = 0
        · subst e; rfl
        · simp [Addr.add, e]
      refine ⟨b, off, rfl, World.block_lt_of_cell? W _ h1, fun i hi => ?_⟩
      have hi' : i < len := by simpa using hi
      have hg : ((List.range len).map f).getD i (0, 0, 0) = f i := by simp [List.getD, hi']
      obtain ⟨⟨k1, k2, k3⟩, _⟩ := hf i (by omega)
      rw [he] at k1
      rw [he, he] at k2 k3
      rw [hg]
      exact ⟨k1, k2, k3⟩
  · intro d hd
    obtain ⟨i, hi, rfl⟩ := List.mem_map.1 hd
    exact (hf i (by have := List.mem_range.1 hi; omega)).2
end Go.Proofs.Yteiidcogjmekhaa
