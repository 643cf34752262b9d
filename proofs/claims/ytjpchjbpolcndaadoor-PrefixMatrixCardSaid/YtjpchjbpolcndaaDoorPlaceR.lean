/- Contracts of skolemref1.place and skolemref1.Matrix: the clauses renamed, or none. Conditions: the game reads as lists of 64-bit ints, no literal the least int. -/
import Derived.Test.YtjpchjbpolcndaaDoorMatP
import Derived.Test.YtjpchjbpolcndaaDoorRef
namespace Go.Proofs.YtjpchjbpolcndaaDoor
open Go.RowKit

theorem posOf_none {xs : List Int} {y : Int} (h : ∀ j, j < xs.length → xs.getD j 0 ≠ y) : posOf xs y = 0 := by
  unfold posOf
  rw [if_neg]
  intro hm
  obtain ⟨j, hj, e⟩ := List.getElem_of_mem hm
  exact h j hj (by simpa [List.getD, hj] using e)
theorem posOf_at : ∀ {xs : List Int} {k : Nat} {y : Int}, k < xs.length → (∀ j, j < k → xs.getD j 0 ≠ y) → xs.getD k 0 = y → posOf xs y = k + 1
  | [], k, y, hk, _, _ => by simp at hk
  | x :: xs, 0, y, _, _, h => by
    have h' : x = y := by simpa [List.getD] using h
    subst h'
    unfold posOf
    rw [if_pos (by simp), List.idxOf_cons_self]
  | x :: xs, k + 1, y, hk, h0, h => by
    have hx : x ≠ y := by have := h0 0 (by omega); simpa [List.getD] using this
    have ih := posOf_at (xs := xs) (k := k) (y := y) (by simpa using hk) (fun j hj => by have := h0 (j + 1) (by omega); simpa [List.getD] using this) (by simpa [List.getD] using h)
    unfold posOf at ih ⊢
    by_cases hm : y ∈ xs
    · rw [if_pos hm] at ih
      rw [if_pos (by simp [hm]), show (x :: xs).idxOf y = xs.idxOf y + 1 by rw [List.idxOf_cons, show (x == y) = false by simp [hx]]; rfl]
      omega
    · rw [if_neg hm] at ih
      omega
theorem getD_app1 (a b : List Int) (i : Nat) (h : i < a.length) : (a ++ b).getD i 0 = a.getD i 0 := by simp [List.getD, List.getElem?_append_left h]
theorem getD_app2 (a b : List Int) (i : Nat) : (a ++ b).getD (a.length + i) 0 = b.getD i 0 := by simp [List.getD, List.getElem?_append_right]

set_option maxRecDepth 8000 in
set_option maxHeartbeats 2000000 in
theorem place_any (ex : Bool) (vo vi vc : Value) (ol il : List Int) (y : Int) (w : World) (ho : Row w vo ol) (hi : Row w vi il) (hc : ∃ a m c, vc = .slice a m c) (hno : ol.length ≤ 1000000) (hni : il.length ≤ 1000000) :
    Calls Tryd.prog 68 #[.agg #[.bool ex, vo, vi, vc], .int .i64 y] w fun e w' => e = .returned (.int .i64 (posOf (ol ++ il) y : Int)) ∧ Below w.heap.size w w' := by
  obtain ⟨ac, mc, cc, rfl⟩ := hc
  obtain ⟨ao, co, rfl, hor⟩ := ho
  obtain ⟨ai, ci, rfl, hir⟩ := hi
  have HO := Lib.hid hor
  have HI := Lib.hid hir
  clear hor hir
  have HA := Lib.hid (fun o => show Below w.heap.size w (w.alloc o) from (Below.refl _ w).alloc (Nat.le_refl _) _)
  have H1 : Hid (∀ k, k < ol.length → (∀ j, j < k → ol.getD j 0 ≠ y) → ol.getD k 0 = y → posOf (ol ++ il) y = k + 1) := fun k hk h0 h =>
    posOf_at (by rw [List.length_append]; omega) (fun j hj => by rw [getD_app1 _ _ _ (by omega)]; exact h0 j hj) (by rw [getD_app1 _ _ _ hk]; exact h)
  have H2 : Hid (∀ k, k < il.length → (∀ j, j < ol.length → ol.getD j 0 ≠ y) → (∀ j, j < k → il.getD j 0 ≠ y) → il.getD k 0 = y → posOf (ol ++ il) y = ol.length + k + 1) := fun k hk h00 h0 h =>
    posOf_at (by rw [List.length_append]; omega) (fun j hj => by
      by_cases hj2 : j < ol.length
      · rw [getD_app1 _ _ _ hj2]; exact h00 j hj2
      · obtain ⟨i, rfl⟩ : ∃ i, j = ol.length + i := ⟨j - ol.length, by omega⟩
        rw [getD_app2]; exact h0 i (by omega)) (by rw [getD_app2]; exact h)
  have H3 : Hid ((∀ j, j < ol.length → ol.getD j 0 ≠ y) → (∀ j, j < il.length → il.getD j 0 ≠ y) → posOf (ol ++ il) y = 0) := fun h00 h0 =>
    posOf_none fun j hj => by
      rw [List.length_append] at hj
      by_cases hj2 : j < ol.length
      · rw [getD_app1 _ _ _ hj2]; exact h00 j hj2
      · obtain ⟨i, rfl⟩ : ∃ i, j = ol.length + i := ⟨j - ol.length, by omega⟩
        rw [getD_app2]; exact h0 i (by omega)
  generalize posOf (ol ++ il) y = r at *
  generalize hNO : ol.length = no at *
  generalize hNI : il.length = ni at *
  have HNN := Lib.hid (And.intro hNO hNI)
  clear hNO hNI
  have HXC : Hid (∀ i, i < no → ∀ o, ∃ b off, ao = some ⟨b, off, none⟩ ∧ (w.alloc o).cell? ⟨b, off + i, none⟩ = some (.int .i64 (ol.getD i 0))) := fun i hi o => by
    obtain ⟨h1, h2, h3⟩ := HO.out
    rw [HNN.out.1] at h3
    obtain ⟨b, off, e, hb, hc⟩ := h3.resolve_left (by omega)
    exact ⟨b, off, e, ((HA.out o).cell (p := ⟨b, off + i, none⟩) hb).trans (hc i hi)⟩
  have HXI : Hid (∀ i, i < ni → ∀ o, ∃ b off, ai = some ⟨b, off, none⟩ ∧ (w.alloc o).cell? ⟨b, off + i, none⟩ = some (.int .i64 (il.getD i 0))) := fun i hi o => by
    obtain ⟨h1, h2, h3⟩ := HI.out
    rw [HNN.out.2] at h3
    obtain ⟨b, off, e, hb, hc⟩ := h3.resolve_left (by omega)
    exact ⟨b, off, e, ((HA.out o).cell (p := ⟨b, off + i, none⟩) hb).trans (hc i hi)⟩
  have hb1 := HO.out.2.1
  have hb2 := HI.out.2.1
  have hb3 := HO.out.1
  have hb4 := HI.out.1
  rw [HNN.out.1] at hb3
  rw [HNN.out.2] at hb4
  unfold maxLen at hb1 hb2
  clear HO HI
  go_enter Tryd.func68, Tryd.ntmps68
  go_wp2_with fail
  go_loop [5] (fun i => ∃ k : Nat, k ≤ no ∧ i = .int .i64 k ∧ Hid (∀ j, j < k → ol.getD j 0 ≠ y)) (fun i => no - (intOf i).toNat)
  case atStart => exact ⟨0, Nat.zero_le _, rfl, fun j hj => absurd hj (Nat.not_lt_zero _)⟩
  case round =>
    obtain ⟨k, hk, rfl, HQ⟩ := hrel
    by_cases hlt : k < no
    · obtain ⟨b, off, rfl, g1⟩ := HXC.out k hlt (.cells #[.bool ex, .slice ao no co, .slice ai ni ci, .slice ac mc cc] 26)
      have HK := Lib.hid (H1.out k hlt HQ.out)
      have HQ1 : Hid (ol.getD k 0 ≠ y → ∀ j, j < k + 1 → ol.getD j 0 ≠ y) := fun h j hj => by
        by_cases e : j = k
        · subst e; exact h
        · exact HQ.out j (by omega)
      generalize ol.getD k 0 = x at *
      cases hxy : (x == y) with
      | true =>
        have HR := Lib.hid (HK.out (by simpa using hxy))
        clear HK HQ1
        go_wp2_with fail
        go_ret
        exact ⟨ret_int (by rw [HR.out]; simp), HA.out _⟩
      | false =>
        have HQ2 := Lib.hid (HQ1.out (by simpa using hxy))
        clear HK HQ1
        go_wp2_with fail
        go_round
        case rel => exact ⟨k + 1, by omega, by go_num, HQ2.out⟩
        case measure => simp [intOf]; omega
    · have hkn : k = no := by omega
      subst hkn
      clear hlt
      go_wp2_with fail
      go_loop [6] (fun i => ∃ k2 : Nat, k2 ≤ ni ∧ i = .int .i64 k2 ∧ Hid (∀ j, j < k2 → il.getD j 0 ≠ y)) (fun i => ni - (intOf i).toNat)
      case atStart => exact ⟨0, Nat.zero_le _, rfl, fun j hj => absurd hj (Nat.not_lt_zero _)⟩
      case round =>
        obtain ⟨k2, hk2, rfl, HQ2⟩ := hrel
        by_cases hlt : k2 < ni
        · obtain ⟨b, off, rfl, g1⟩ := HXI.out k2 hlt (.cells #[.bool ex, .slice ao k co, .slice ai ni ci, .slice ac mc cc] 26)
          have HK := Lib.hid (H2.out k2 hlt HQ.out HQ2.out)
          have HQ1 : Hid (il.getD k2 0 ≠ y → ∀ j, j < k2 + 1 → il.getD j 0 ≠ y) := fun h j hj => by
            by_cases e : j = k2
            · subst e; exact h
            · exact HQ2.out j (by omega)
          generalize il.getD k2 0 = x at *
          cases hxy : (x == y) with
          | true =>
            have HR := Lib.hid (HK.out (by simpa using hxy))
            clear HK HQ1
            go_wp2_with fail
            go_ret
            exact ⟨ret_int (by rw [HR.out]; simp), HA.out _⟩
          | false =>
            have HQ3 := Lib.hid (HQ1.out (by simpa using hxy))
            clear HK HQ1
            go_wp2_with fail
            go_round
            case rel => exact ⟨k2 + 1, by omega, by go_num, HQ3.out⟩
            case measure => simp [intOf]; omega
        · have hkn2 : k2 = ni := by omega
          subst hkn2
          have HR := Lib.hid (H3.out HQ.out HQ2.out)
          clear hlt H1 H2 H3
          go_wp2_with fail
          go_ret
          exact ⟨ret_int (by rw [HR.out]; rfl), HA.out _⟩
end Go.Proofs.YtjpchjbpolcndaaDoor
