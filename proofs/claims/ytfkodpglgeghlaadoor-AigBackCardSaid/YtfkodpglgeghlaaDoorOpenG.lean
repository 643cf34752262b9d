/- From the way in which an argument is handed over to 'RowG': slices of bytes, slices of bools. No conditions beyond those typed. -/
import Derived.Test.YtfkodpglgeghlaaDoorGen
import Derived.Test.YtfkodpglgeghlaaDoorStr
import Derived.Test.YtfkodpglgeghlaaDoorRows
import Derived.OpenShut
import Derived.Deep.Grids
namespace Go.Proofs.YtfkodpglgeghlaaDoor
open Go.RowKit

theorem rowG_of {α : Type} (mk : α → Value) (d : α) {w : World} {a : Addr} {len cap : Nat} (f : Nat → α) (hl : len ≤ cap) (hm : cap ≤ maxLen) (hc : ∀ i, i < len → w.cell? (a.add i) = some (mk (f i))) :
    RowGAt mk d w (some a) cap ((List.range len).map f) := by
  refine ⟨by simpa using hl, hm, ?_⟩
  rcases Nat.eq_zero_or_pos len with h0 | h0
  · left; simp [h0]
  · right
    obtain ⟨b, off, spot⟩ := a
    have h1 := hc 0 h0
    have hs : spot = none := by simpa [Addr.add] using World.cell?_spot h1
    subst hs
    refine ⟨b, off, rfl, World.block_lt_of_cell? w _ h1, fun i hi => ?_⟩
    have hi' : i < len := by simpa using hi
    have h2 := hc i hi'
    have he : (⟨b, off, none⟩ : Addr).add i = ⟨b, off + i, none⟩ := by
      by_cases e : i = 0
      · subst e; rfl
      · simp [Addr.add, e]
    rw [he] at h2
    rw [h2]
    simp [List.getD, hi']

theorem open_bytes {H : Type} {enc : TypeId × Value → H} {W : World} {n : Nat} {v : Value} {y : DataW H × List MemPlace} (h : DataW.trod enc Tryd.prog W 0 (fun _ => true) true n 23 [v] = some y) :
    ∃ xs : List Int, RowG (Value.int .u8) 0 W v xs ∧ Bts xs := by
  rcases Go.ChangeShapes.open_ints Tryd.underlying23 Tryd.underlying5 (by kernel_rfl) h with ⟨hcs, _⟩ | ⟨a, len, cap, zs, hcs, _, hl, hm, hz, _, hc, hw⟩
  · simp at hcs
    subst hcs
    exact ⟨[], RowG.nil _ _ _, Bts.nil⟩
  · simp at hcs
    subst hcs
    simp only [if_true] at hz
    have hr := rowG_of (Value.int .u8) 0 (w := W) (a := a) (len := len) (fun i => zs.getD i 0) hl hm (fun i hi => hc i (by omega))
    refine ⟨(List.range len).map fun i => zs.getD i 0, ⟨some a, cap, by simp, hr⟩, fun x hx => ?_⟩
    obtain ⟨i, hi, rfl⟩ := List.mem_map.1 hx
    have hi' : i < zs.length := by have := List.mem_range.1 hi; omega
    exact bounds_u8 (hw _ (by simp [List.getD, hi']))

end Go.Proofs.YtfkodpglgeghlaaDoor
