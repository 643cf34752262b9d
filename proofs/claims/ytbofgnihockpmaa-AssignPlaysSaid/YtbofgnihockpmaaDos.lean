/- What is told to values, as it lies in memory: a slice of pairs of ints, and its opener. No conditions beyond those typed. -/
import Derived.Test.YtbofgnihockpmaaBase
import Derived.Test.YtbofgnihockpmaaOpen
import Derived.Test.YtbofgnihockpmaaRows
import Derived.OpenShut
import Derived.Deep.SlicePairs
namespace Go.Proofs.Ytbofgnihockpmaa
open Go.RowKit

def DosAt (w : World) (a : Option Addr) (c : Nat) (ds : List (Int × Int)) : Prop :=
  ds.length ≤ c ∧ c ≤ maxLen ∧ (ds.length = 0 ∨ ∃ b off, a = some ⟨b, off, none⟩ ∧ b < w.heap.size ∧ ∀ i, i < ds.length → w.cell? ⟨b, off + i * 2, none⟩ = some (.int .i64 (ds.getD i (0, 0)).1) ∧ w.cell? ⟨b, off + (i * 2 + 1), none⟩ = some (.int .i64 (ds.getD i (0, 0)).2))

theorem open_dos {H : Type} {enc : TypeId × Value → H} {W : World} {n : Nat} {v : Value} {y : DataW H × List MemPlace} (h : DataW.trod enc Try.prog W 0 (fun _ => true) true n 22 [v] = some y) :
    ∃ a cap ds, v = .slice a (List.length ds) cap ∧ DosAt W a cap ds ∧ ∀ d ∈ ds, (-9223372036854775808 ≤ d.1 ∧ d.1 ≤ 9223372036854775807) ∧ -9223372036854775808 ≤ d.2 ∧ d.2 ≤ 9223372036854775807 := by
  rcases Deep.open_slice_pairs Try.underlying22 Try.underlying34 (by kernel_rfl) rfl rfl (by kernel_rfl) (by kernel_rfl) h with ⟨hcs, _⟩ | ⟨a, len, cap, m, nn, V0, V1, D0, D1, P0, P1, hcs, _, hl, hm, hmm, _, hx⟩
  · simp at hcs
    subst hcs
    exact ⟨none, 0, [], rfl, ⟨Nat.le_refl _, by unfold maxLen; omega, .inl rfl⟩, by simp⟩
  · simp at hcs
    subst hcs
    have hlm : len ≤ m := by rw [hmm]; simp; exact hl
    have hi : ∀ i, i < m → ∃ x : Int × Int, W.cell? (a.add (i * 2)) = some (.int .i64 x.1) ∧ W.cell? (a.add (i * 2 + 1)) = some (.int .i64 x.2) ∧ (Lit.int .i64 x.1).wf = true ∧ (Lit.int .i64 x.2).wf = true := by
      intro i hi
      obtain ⟨c0, c1, t0, t1⟩ := hx i hi
      obtain ⟨z0, e0, _, w0⟩ := DataW.trod_int Try.underlying3 t0
      obtain ⟨z1, e1, _, w1⟩ := DataW.trod_int Try.underlying3 t1
      simp only [List.cons.injEq, and_true] at e0 e1
      exact ⟨(z0, z1), by rw [c0, e0], by rw [c1, e1], w0, w1⟩
    let f : Nat → Int × Int := fun i => if h : i < m then Classical.choose (hi i h) else (0, 0)
    have hf : ∀ i, i < m → W.cell? (a.add (i * 2)) = some (.int .i64 (f i).1) ∧ W.cell? (a.add (i * 2 + 1)) = some (.int .i64 (f i).2) ∧ (Lit.int .i64 (f i).1).wf = true ∧ (Lit.int .i64 (f i).2).wf = true := by
      intro i h
      have := Classical.choose_spec (hi i h)
      show _ ∧ _
      simp only [f, dif_pos h]
      exact this
    clear_value f
    refine ⟨some a, cap, (List.range len).map f, by simp, ⟨by simpa using hl, hm, ?_⟩, ?_⟩
    · rcases Nat.eq_zero_or_pos len with h0 | h0
      · left; simp [h0]
      · right
        obtain ⟨b, off, spot⟩ := a
        have h1 := (hf 0 (by omega)).1
        have hs : spot = none := by simpa [Addr.add] using World.cell?_spot h1
        subst hs
        have he : ∀ (b off i : Nat), (⟨b, off, none⟩ : Addr).add i = ⟨b, off + i, none⟩ := fun b off i => by
          by_cases e : i = 0
          · subst e; rfl
          · simp [Addr.add, e]
        refine ⟨b, off, rfl, World.block_lt_of_cell? W _ h1, fun i hi => ?_⟩
        have hi' : i < len := by simpa using hi
        have hg : ((List.range len).map f).getD i (0, 0) = f i := by simp [List.getD, hi']
        obtain ⟨k1, k2, _⟩ := hf i (by omega)
        rw [he] at k1 k2
        rw [hg]
        exact ⟨k1, k2⟩
    · intro d hd
      obtain ⟨i, hi, rfl⟩ := List.mem_map.1 hd
      obtain ⟨_, _, k3, k4⟩ := hf i (by have := List.mem_range.1 hi; omega)
      exact ⟨bounds_i64 k3, bounds_i64 k4⟩
end Go.Proofs.Ytbofgnihockpmaa
