/- The contract of slices.SortFunc by slow.shorter on a row of masks: another order, the same members. Conditions: how the row lies in memory. -/
import Derived.Test.YtcodmijphejfdaaDoorCmpM
import Derived.Test.YtcodmijphejfdaaDoorOrd
import Derived.Shelf.SlSortCmp.NoneTotal
namespace Go.Proofs.YtcodmijphejfdaaDoor
open Go.RowKit Go.Lib Go.Sort Go.Shelf

theorem encM_at (d : Mk) (r : Nat) : (encM d)[r % 2]! = if r % 2 = 0 then .int .i64 (d.1 : Int) else .int .i64 (d.2 : Int) := by
  rcases Nat.mod_two_eq_zero_or_one r with e | e <;> rw [e] <;> rfl
theorem getB_toArray (ds : List Mk) (j : Nat) : ds.toArray[j]! = ds.getD j (0, 0) := by
  by_cases h : j < ds.length
  · simp [List.getD, h]
  · simp [List.getD, h]; rfl
theorem getB_toList (d : Array Mk) (j : Nat) : d[j]! = d.toList.getD j (0, 0) := by
  have := getB_toArray d.toList j
  simpa using this
theorem MCel.holds {w : World} {b off : Nat} {ds : List Mk} (h : MCel w b off ds) : HoldsK encM 2 w b off ds.toArray := fun j hj => by
  have hj2 : j < ds.length * 2 := by simpa using hj
  obtain ⟨h1, h2, h3, h4⟩ := h (j / 2) (by omega)
  rw [get_flatK encM 2 _ j (by simpa using hj2), encM_at, getB_toArray]
  rcases Nat.mod_two_eq_zero_or_one j with e | e
  · rw [if_pos e, show off + j = off + j / 2 * 2 by omega]
    exact ⟨h1, h3⟩
  · rw [if_neg (by omega), show off + j = off + j / 2 * 2 + 1 by omega]
    exact ⟨h2, h4⟩
theorem MCel.of_holds {w : World} {b off : Nat} {d : Array Mk} (h : HoldsK encM 2 w b off d) : MCel w b off d.toList := fun j hj => by
  have hj' : j < d.size := by simpa using hj
  have h1 := h (j * 2) (by rw [size_flatK]; omega)
  have h2 := h (j * 2 + 1) (by rw [size_flatK]; omega)
  rw [get_flatK encM 2 _ _ (by omega), encM_at, getB_toList] at h1 h2
  rw [if_pos (by omega), show j * 2 / 2 = j by omega] at h1
  rw [if_neg (by omega), show (j * 2 + 1) / 2 = j by omega] at h2
  exact ⟨h1.1, by rw [Nat.add_assoc]; exact h2.1, h1.2, by rw [Nat.add_assoc]; exact h2.2⟩

theorem sortM_cel (B g cap : Nat) (ds : List Mk) (w : World) (hM : MCel w g 0 ds) (hB : B ≤ g) (hg : g < w.heap.size) (hn : ds.length ≤ 1000000000) :
    Calls Tryd.prog 59 #[.slice (some ⟨g, 0, none⟩) ds.length cap, .func (.func 60) #[] #[]] w fun e w' => e = .returned (.tuple #[]) ∧ ∃ es : List Mk, es.length = ds.length ∧ (∀ x, x ∈ es ↔ x ∈ ds) ∧ MCel w' g 0 es ∧ Below B w w' := by
  refine (sortM_any g 0 cap ds.toArray w hM.holds hg (by simp; omega)).mono ?_
  rintro e w' ⟨rfl, d', q, os, hp, rfl⟩
  obtain ⟨hs, _, hperm⟩ := hp
  have hs' : d'.size = ds.length := by simpa using hs
  have hperm' : d'.toList.Perm ds := by
    have h1 : (d'.extract 0 ds.toArray.size).toList = d'.toList := by simp [← hs']
    have h2 : (ds.toArray.extract 0 ds.toArray.size).toList = ds := by simp
    rw [h1, h2] at hperm
    exact hperm
  refine ⟨rfl, d'.toList, by simpa using hs', fun x => hperm'.mem_iff, ?_, ?_⟩
  · refine MCel.of_holds ?_
    show Holds id (grow (putRow id (Sort.ahead w q) g 0 (flatK encM 2 d')) os) g 0 (flatK encM 2 d')
    refine holds_grow id _ os g 0 _ ?_ (holds_putRow id _ g 0 (flatK encM 2 ds.toArray) _ (holds_ahead id w q g 0 _ hM.holds) (by rw [size_flatK, size_flatK]; simp [hs']))
    have := (Lib.below_putRow (enc := id) (q := q) (d := flatK encM 2 d') (Go.RowKit.Below.refl B w) hB).size
    omega
  · have h2 : Go.RowKit.Below B w (putRow id (Sort.ahead w q) g 0 (flatK encM 2 d')) := Lib.below_putRow (Go.RowKit.Below.refl B w) hB
    have h3 : Go.RowKit.Below (putRow id (Sort.ahead w q) g 0 (flatK encM 2 d')).heap.size (putRow id (Sort.ahead w q) g 0 (flatK encM 2 d')) (grow (putRow id (Sort.ahead w q) g 0 (flatK encM 2 d')) os) :=
      ⟨rfl, rfl, rfl, by simp [grow], fun k hk => Array.getElem?_append_left hk⟩
    exact h2.trans (h3.mono (by have := h2.size; omega))
theorem sortM_none (cap : Nat) (p : Option Addr) (w : World) :
    Calls Tryd.prog 59 #[.slice p 0 cap, .func (.func 60) #[] #[]] w fun e w' => e = .returned (.tuple #[]) ∧ w' = w := AnyF.slices_SortFunc_none Tryd.sortCl p cap _ w

set_option maxHeartbeats 1000000 in
theorem compactM_none (p : Option Addr) (cap : Nat) (w : World) :
    Calls Tryd.prog 61 #[.slice p 0 cap] w fun e w' => e = .returned (.slice p 0 cap) ∧ w = w' := by
  go_enter Tryd.func61, Tryd.ntmps61
  go_wp2_with fail
  go_ret
  exact ⟨rfl, rfl⟩
end Go.Proofs.YtcodmijphejfdaaDoor
