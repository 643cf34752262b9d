/- From the way in which an argument is handed over (a row of ints, a slice of such rows) to 'RowAt', 'RowsAt', with the rows' bounds and the reach. No conditions beyond those typed. -/
import Derived.Test.YtmgepagdkfghlaaDoorBase
import Derived.Test.YtmgepagdkfghlaaDoorCheckP
import Derived.Test.YtmgepagdkfghlaaDoorOpen
import Derived.Test.YtmgepagdkfghlaaDoorRows
import Derived.OpenShut
import Derived.Deep.Matrix
import Derived.SizedLaws
import Derived.Lib.SmallJoins
namespace Go.Proofs.YtmgepagdkfghlaaDoor
open Go.RowKit Go.ChangeShapes Go.WideShapes Go.ChangeAt Go.Deep Go.Joins

theorem cellsInt : Tryd.prog.cellsOf 3 = 1 := by kernel_rfl
theorem cellsInts : Tryd.prog.cellsOf 23 = 1 := by kernel_rfl
theorem bytesInt : Tryd.prog.bytesOf 3 = 8 := by kernel_rfl

set_option maxRecDepth 100000 in
theorem open_row {H : Type} {enc : TypeId × Value → H} {W : World} {base : Nat} {v : Value} {d : DataW H} {p : List MemPlace} (hv : Value.okWide Tryd.prog W .any base 23 v) (h : DataW.Trod enc Tryd.prog W 0 (fun _ => true) true 23 v d p) :
    ∃ a cap xs, v = .slice a (List.length xs) cap ∧ RowAt W a cap xs ∧ ∀ y ∈ xs, -9223372036854775808 ≤ y ∧ y ≤ 9223372036854775807 := by
  obtain ⟨a0, len0, cap0, rfl⟩ := okWide_slice Tryd.underlying23 hv
  obtain ⟨fuel, hf⟩ := h
  rcases open_ints Tryd.underlying23 Tryd.underlying3 cellsInt hf with ⟨hcs, _⟩ | ⟨x, l, c, zs, hcs, _, hl, hm, hz, _, hcell, hwz⟩
  · simp [Value.cells] at hcs
    obtain ⟨rfl, rfl, rfl⟩ := hcs
    exact ⟨none, 0, [], rfl, ⟨Nat.le_refl _, by unfold maxLen; omega, .inl rfl⟩, by simp⟩
  · simp [Value.cells] at hcs
    obtain ⟨rfl, rfl, rfl⟩ := hcs
    obtain ⟨xs, hx, hr, hb⟩ := rowOf (.inr ⟨x, rfl, hl, hm, by simpa using hz, hcell, hwz⟩)
    exact ⟨some x, cap0, xs, by rw [hx], hr, hb⟩

theorem weightsAll_mem' {H : Type} {P : Program} {e : TypeId} : ∀ {l : List (DataW H)} {d : DataW H}, d ∈ l → ∀ n ∈ d.weights P e, n ∈ DataW.weightsAll P e l
  | d' :: r, d, hd, n, hn => by
    simp only [DataW.weightsAll, List.mem_append]
    rcases List.mem_cons.1 hd with rfl | h
    · exact Or.inl hn
    · exact Or.inr (weightsAll_mem' h n hn)

theorem open_rows {H : Type} {enc : TypeId × Value → H} {W : World} {n : Nat} {v : Value} {y : DataW H × List MemPlace} (h : DataW.trod enc Tryd.prog W 0 (fun _ => true) true n 27 [v] = some y) :
    ∃ a cap xss, v = .slice a (List.length xss) cap ∧ RowsAt W a cap xss ∧ (∀ xs ∈ xss, ∀ z ∈ xs, -9223372036854775808 ≤ z ∧ z ≤ 9223372036854775807) ∧
      ((∀ m ∈ y.1.weights Tryd.prog 27, m ≤ reachBytes) → ∀ xs ∈ xss, xs.length ≤ 140737488355328) := by
  rcases open_int_rows Tryd.underlying27 Tryd.underlying23 Tryd.underlying3 cellsInts cellsInt h with ⟨hcs, _⟩ | ⟨a, len, cap, Af, L, C, Z, hcs, _, hl, hm, hx, hr⟩
  · simp at hcs
    subst hcs
    exact ⟨none, 0, [], rfl, ⟨Nat.le_refl _, by unfold maxLen; omega, .inl rfl⟩, by simp, by simp⟩
  · simp at hcs
    subst hcs
    have hgt : ∀ i, i < len → (((List.range len).map fun r => (Z r).take (L r)).getD i []) = (Z i).take (L i) := fun i hi => by simp [List.getD, hi]
    refine ⟨some a, cap, (List.range len).map fun r => (Z r).take (L r), by simp, ⟨by simpa using hl, hm, ?_⟩, ?_, ?_⟩
    · rcases Nat.eq_zero_or_pos len with h0 | h0
      · left; simp [h0]
      · right
        obtain ⟨b, off, spot⟩ := a
        have h1 := (hr 0 (by omega)).1
        have hs : spot = none := by simpa [Addr.add] using World.cell?_spot h1
        subst hs
        have he : ∀ (b off i : Nat), (⟨b, off, none⟩ : Addr).add i = ⟨b, off + i, none⟩ := fun b off i => by
          by_cases e : i = 0
          · subst e; rfl
          · simp [Addr.add, e]
        refine ⟨b, off, rfl, World.block_lt_of_cell? W _ h1, fun i hi => ?_⟩
        have hi' : i < len := by simpa using hi
        obtain ⟨c1, c2, c3, c4, c5, c6, c7⟩ := hr i (by omega)
        rw [he] at c1
        refine ⟨_, c1, ?_⟩
        rw [hgt i hi']
        have hlen : ((Z i).take (L i)).length = L i := by simp; omega
        refine ⟨Af i, C i, by rw [hlen], by omega, c3, ?_⟩
        cases ha : Af i with
        | none => left; have := c6 ha; omega
        | some a' =>
          by_cases hz : L i = 0
          · left; omega
          · right
            obtain ⟨_, c8⟩ := c7 a' ha
            obtain ⟨b', off', spot'⟩ := a'
            have h2 := c8 0 (by omega)
            have hs : spot' = none := by simpa [Addr.add] using World.cell?_spot h2
            subst hs
            refine ⟨b', off', rfl, World.block_lt_of_cell? W _ h2, fun j hj => ?_⟩
            have hj' : j < L i := by omega
            have h3 := c8 j (by omega)
            rw [he] at h3
            rw [h3]
            simp [List.getD, hj']
    · intro xs hxs z hz
      obtain ⟨r, hr', rfl⟩ := List.mem_map.1 hxs
      have hrl : r < len := by simpa using hr'
      obtain ⟨_, _, _, _, c5, _⟩ := hr r (by omega)
      exact bounds_i64 (c5 z (List.mem_of_mem_take hz))
    · intro hw xs hxs
      obtain ⟨r, hr', rfl⟩ := List.mem_map.1 hxs
      have hrl : r < len := by simpa using hr'
      obtain ⟨_, c2, _, c4, _, c6, _⟩ := hr r (by omega)
      have hle : ((Z r).take (L r)).length = L r := by simp; omega
      rw [hle]
      cases ha : Af r with
      | none => have := c6 ha; omega
      | some a' =>
        have hmem : (L r + (C r - L r)) * 8 ∈ y.1.weights Tryd.prog 27 := by
          rw [hx]
          simp only [DataW.weights, Tryd.underlying27, List.mem_cons, List.mem_append]
          refine .inr (.inl (weightsAll_mem' (d := intRow .i64 (Af r) (L r) (Z r)) (List.mem_map.2 ⟨r, by simpa using hrl, rfl⟩) _ ?_))
          rw [ha]
          simp [intRow, DataW.weights, Tryd.underlying23, bytesInt, lits]
          left
          omega
        have := hw _ hmem
        have hrb : reachBytes = 140737488351232 := rfl
        omega

end Go.Proofs.YtmgepagdkfghlaaDoor
