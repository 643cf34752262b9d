/- From the way in which an api.Circuit is handed over to its count and its two rows. No conditions beyond those typed. -/
import Derived.Test.YtmgepagdkfghlaaDoorOpenRows
import Derived.Test.YtmgepagdkfghlaaDoorCir
import Derived.Deep.SlicePairs
import Derived.Deep.Strs
import Derived.Deep.Slices
import Derived.Laws.IdiomArrays
namespace Go.Proofs.YtmgepagdkfghlaaDoor
open Go.RowKit Go.ChangeShapes Go.WideShapes Go.ChangeAt Go.Deep Go.Joins

theorem cellsCi : Tryd.prog.cellsOf 25 = 3 := by kernel_rfl
theorem cellsI9 : Tryd.prog.cellsOf 3 = 1 := by kernel_rfl
theorem cellsIs9 : Tryd.prog.cellsOf 23 = 1 := by kernel_rfl
theorem cellsPs9 : Tryd.prog.cellsOf 22 = 1 := by kernel_rfl
theorem cellsP9 : Tryd.prog.cellsOf 59 = 2 := by kernel_rfl

theorem row_of_trod9 {H : Type} {enc : TypeId × Value → H} {W : World} {n : Nat} {v : Value} {y : DataW H × List MemPlace} (h : DataW.trod enc Tryd.prog W 0 (fun _ => true) true n 23 [v] = some y) : ∃ xs, Row W v xs ∧ ∀ z ∈ xs, -9223372036854775808 ≤ z ∧ z ≤ 9223372036854775807 := by
  rcases open_ints Tryd.underlying23 Tryd.underlying3 cellsInt h with ⟨hcs, _⟩ | ⟨x, l, c, zs, hcs, _, hl, hm, hz, _, hcell, hwz⟩
  · simp only [List.cons.injEq, and_true] at hcs
    exact ⟨[], ⟨none, 0, by rw [hcs]; rfl, ⟨Nat.le_refl _, by unfold maxLen; omega, .inl rfl⟩⟩, by simp⟩
  · simp only [List.cons.injEq, and_true] at hcs
    obtain ⟨xs, hx, hr, hb⟩ := rowOf (.inr ⟨x, rfl, hl, hm, by simpa using hz, hcell, hwz⟩)
    exact ⟨xs, ⟨some x, c, by rw [hcs, hx], hr⟩, hb⟩
theorem in64_wf {x : Int} (h : (Lit.int .i64 x).wf = true) : in64 x := bounds_i64 h
theorem add9 (b off i : Nat) : (⟨b, off, none⟩ : Addr).add i = ⟨b, off + i, none⟩ := by
  by_cases e : i = 0
  · subst e; rfl
  · simp [Addr.add, e]

set_option maxRecDepth 100000 in
theorem open_pairs9 {H : Type} {enc : TypeId × Value → H} {W : World} {n : Nat} {v : Value} {y : DataW H × List MemPlace} (h : DataW.trod enc Tryd.prog W 0 (fun _ => true) true n 22 [v] = some y) :
    ∃ ps, PRow W v ps ∧ ∀ x ∈ ps, in64 x.1 ∧ in64 x.2 := by
  rcases open_slice Tryd.underlying22 h with ⟨hcs, _⟩ | ⟨a, len, cap, m, nn, D, Pl, hcs, _, hl, hm, hmm, _, hx⟩
  · simp only [List.cons.injEq, and_true] at hcs
    subst hcs
    exact ⟨[], PRow.nil W, by simp⟩
  · simp only [List.cons.injEq, and_true] at hcs
    subst hcs
    have hlm : len ≤ m := by rw [hmm]; simp; exact hl
    rw [cellsP9] at hx
    have hi : ∀ i, i < m → ∃ x : Int × Int, W.cell? (a.add (i * 2)) = some (.int .i64 x.1) ∧ W.cell? (a.add (i * 2 + 1)) = some (.int .i64 x.2) ∧ in64 x.1 ∧ in64 x.2 := by
      intro i hi
      obtain ⟨cs', h1, h2⟩ := hx i hi
      obtain ⟨_, hlen, hcell⟩ := World.cells?_some h1
      obtain ⟨xs, k, _, _, _, hxl, hf⟩ := DataW.trod_array Tryd.underlying59 h2
      rw [cellsI9] at hf
      match xs, hxl, cs', hlen with
      | [y0, y1], _, [v0, v1], _ =>
        have g0 := hf 0 (by decide)
        have g1 := hf 1 (by decide)
        simp at g0 g1
        have e0 := hcell 0 (by omega)
        have e1 := hcell 1 (by omega)
        rw [add_add] at e0 e1
        obtain ⟨z0, f0, _, w0⟩ := DataW.trod_int Tryd.underlying3 g0
        obtain ⟨z1, f1, _, w1⟩ := DataW.trod_int Tryd.underlying3 g1
        simp only [List.cons.injEq, and_true] at f0 f1
        subst f0; subst f1
        exact ⟨(z0, z1), by simpa using e0, by simpa using e1, in64_wf w0, in64_wf w1⟩
    let f : Nat → Int × Int := fun i => if h : i < m then Classical.choose (hi i h) else (0, 0)
    have hf : ∀ i, i < m → W.cell? (a.add (i * 2)) = some (.int .i64 (f i).1) ∧ W.cell? (a.add (i * 2 + 1)) = some (.int .i64 (f i).2) ∧ in64 (f i).1 ∧ in64 (f i).2 := by
      intro i h
      have := Classical.choose_spec (hi i h)
      show _ ∧ _
      simp only [f, dif_pos h]
      exact this
    clear_value f
    refine ⟨(List.range len).map f, ⟨some a, cap, by simp, ⟨by simpa using hl, hm, ?_⟩⟩, ?_⟩
    · rcases Nat.eq_zero_or_pos len with h0 | h0
      · left; simp [h0]
      · right
        obtain ⟨b, off, spot⟩ := a
        have h1 := (hf 0 (by omega)).1
        have hs : spot = none := by simpa [Addr.add] using World.cell?_spot h1
        subst hs
        refine ⟨b, off, rfl, ?_, fun i hi => ?_⟩
        · have := World.block_lt_of_cell? W _ h1
          simpa [add9] using this
        · simp at hi
          have := hf i (by omega)
          rw [add9, add9] at this
          simp only [List.getD, List.getElem?_map, List.getElem?_range hi]
          exact ⟨this.1, by rw [Nat.add_assoc]; exact this.2.1⟩
    · intro x hx
      obtain ⟨i, hi, rfl⟩ := List.mem_map.1 hx
      have := hf i (by have := List.mem_range.1 hi; omega)
      exact this.2.2

set_option maxRecDepth 100000 in
theorem open_circuit {H : Type} {enc : TypeId × Value → H} {W : World} {base : Nat} {v : Value} {d : DataW H} {p : List MemPlace} (hv : Value.okWide Tryd.prog W .any base 25 v) (h : DataW.Trod enc Tryd.prog W 0 (fun _ => true) true 25 v d p) :
    ∃ n u o ps os, v = circV n u o ∧ PRow W u ps ∧ Row W o os ∧ in64 n ∧ (∀ x ∈ ps, in64 x.1 ∧ in64 x.2) ∧ ∀ x ∈ os, in64 x := by
  obtain ⟨cs, rfl, hsz⟩ := okWide_struct Tryd.underlying25 hv
  obtain ⟨c0, c1, c2, rfl⟩ := array3 (hsz.trans cellsCi)
  obtain ⟨fuel, hf⟩ := h
  obtain ⟨y0, y1, y2, n, hx, _, h0, h1, h2⟩ := trod_struct3 Tryd.underlying25 hf
  have h0' : DataW.trod enc Tryd.prog W 0 (fun _ => true) true n 3 [c0] = some y0 := by simpa [Value.cells, cellsI9] using h0
  have h1' : DataW.trod enc Tryd.prog W 0 (fun _ => true) true n 22 [c1] = some y1 := by simpa [Value.cells, cellsI9, cellsPs9] using h1
  have h2' : DataW.trod enc Tryd.prog W 0 (fun _ => true) true n 23 [c2] = some y2 := by simpa [Value.cells, cellsI9, cellsPs9, cellsIs9] using h2
  clear h0 h1 h2
  obtain ⟨z, e, _, wz⟩ := DataW.trod_int Tryd.underlying3 h0'
  simp only [List.cons.injEq, and_true] at e
  subst e
  obtain ⟨ps, hp, hpb⟩ := open_pairs9 h1'
  obtain ⟨os, ho, hob⟩ := row_of_trod9 h2'
  exact ⟨z, c1, c2, ps, os, rfl, hp, ho, in64_wf wz, hpb, hob⟩
end Go.Proofs.YtmgepagdkfghlaaDoor
