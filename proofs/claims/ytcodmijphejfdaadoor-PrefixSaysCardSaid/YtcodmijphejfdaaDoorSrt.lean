/- Contracts of slices.Sort and slices.Compact on a row of ints of the call's own. No conditions beyond those typed. -/
import Derived.Test.YtcodmijphejfdaaDoorFreeP
import Derived.Test.YtcodmijphejfdaaDoorOwn
import Derived.Test.YtcodmijphejfdaaDoorShelf
import Derived.Lib.SortBridge
namespace Go.Proofs.YtcodmijphejfdaaDoor
open Go.RowKit Go.Sort

/-- Behind the sort the row is still owned, and nothing below has changed. -/
theorem own_sorted {w : World} {B : Nat} {e : TypeId} {g n cap q : Nat} {zs ys : List Int} {os : Array Obj} (h : w.ownsRow B e 1 (.slice (some ⟨g, 0, none⟩) n cap) n (zs.map (Value.int .i64))) (hy : ys.length = n) :
    (grow (putRow (Value.int .i64) (Sort.ahead w q) g 0 ys.toArray) os).ownsRow B e 1 (.slice (some ⟨g, 0, none⟩) n cap) n (ys.map (Value.int .i64)) ∧ Below B w (grow (putRow (Value.int .i64) (Sort.ahead w q) g 0 ys.toArray) os) := by
  have hlt := h.lt g rfl
  have h1 := Lib.ownsRow_putRow (q := q) h hy (Nat.le_refl _)
  rw [List.take_of_length_le (by omega)] at h1
  have h2 : Below B w (putRow (Value.int .i64) (Sort.ahead w q) g 0 ys.toArray) := Lib.below_putRow (Below.refl B w) hlt.1
  have h3 : Below (putRow (Value.int .i64) (Sort.ahead w q) g 0 ys.toArray).heap.size (putRow (Value.int .i64) (Sort.ahead w q) g 0 ys.toArray) (grow (putRow (Value.int .i64) (Sort.ahead w q) g 0 ys.toArray) os) :=
    ⟨rfl, rfl, rfl, by simp [grow], fun k hk => Array.getElem?_append_left hk⟩
  exact ⟨own_keep h1 h3, h2.trans (h3.mono (by have := h2.size; omega))⟩
/-- Behind slices.Compact the row, cut, is still owned. -/
theorem own_compact {w : World} {B : Nat} {e : TypeId} {g n cap q : Nat} {zs : List Int} (h : w.ownsRow B e 1 (.slice (some ⟨g, 0, none⟩) n cap) n (zs.map (Value.int .i64))) :
    (putRow (Value.int .i64) (Sort.ahead w q) g 0 (Lib.compact zs ++ List.replicate (zs.length - (Lib.compact zs).length) 0).toArray).ownsRow B e 1 (.slice (some ⟨g, 0, none⟩) (Lib.compact zs).length cap) (Lib.compact zs).length ((Lib.compact zs).map (Value.int .i64)) ∧
      Below B w (putRow (Value.int .i64) (Sort.ahead w q) g 0 (Lib.compact zs ++ List.replicate (zs.length - (Lib.compact zs).length) 0).toArray) := by
  have hlt := h.lt g rfl
  have hl := own_len h
  have hc := Lib.compact_length_le zs
  have h1 := Lib.ownsRow_putRow (q := q) (ys := Lib.compact zs ++ List.replicate (zs.length - (Lib.compact zs).length) 0) h (by simp; omega) (show (Lib.compact zs).length ≤ n by omega)
  rw [List.take_left] at h1
  exact ⟨h1, Lib.below_putRow (Below.refl B w) hlt.1⟩

theorem sort_own (v : Value) (zs : List Int) (w : World) (B : Nat) (h : w.ownsRow B 3 1 v zs.length (zs.map (Value.int .i64))) (hn : zs.length ≤ 1000000000) :
    Calls Tryd.prog 34 #[v] w fun e w' => e = .returned (.tuple #[]) ∧ w'.ownsRow B 3 1 v zs.length ((srtL zs).map (Value.int .i64)) ∧ Below B w w' := by
  by_cases hv : v = .slice none 0 0
  · subst hv
    refine (Tryd.slices_Sort_int_none none 0 w).mono ?_
    rintro e w' ⟨rfl, rfl⟩
    have hl : zs = [] := by
      rcases h.2 with ⟨_, h2⟩ | ⟨g, cap, cl, h2, _⟩
      · exact List.eq_nil_of_length_eq_zero h2
      · cases h2
    subst hl
    exact ⟨rfl, by simpa [srtL] using h, Below.refl _ _⟩
  · obtain ⟨g, cap, rfl, hBg, hg1, hnc, hcm1, _, hH⟩ := Lib.holds_of_ownsRow h hv
    refine (Tryd.slices_Sort_int g 0 cap zs w hH hg1 (by omega)).mono ?_
    rintro e w' ⟨rfl, q, os, rfl⟩
    exact ⟨rfl, own_sorted h (srt_len zs)⟩

theorem compact_own (v : Value) (zs : List Int) (w : World) (B : Nat) (h : w.ownsRow B 3 1 v zs.length (zs.map (Value.int .i64))) (hn : zs.length ≤ 1000000000) :
    Calls Tryd.prog 35 #[v] w fun e w' => ∃ v', e = .returned v' ∧ w'.ownsRow B 3 1 v' (Lib.compact zs).length ((Lib.compact zs).map (Value.int .i64)) ∧ Below B w w' := by
  by_cases hv : v = .slice none 0 0
  · subst hv
    refine (Tryd.slices_Compact_int_empty none 0 w).mono ?_
    rintro e w' ⟨rfl, rfl⟩
    have hl : zs = [] := by
      rcases h.2 with ⟨_, h2⟩ | ⟨g, cap, cl, h2, _⟩
      · exact List.eq_nil_of_length_eq_zero h2
      · cases h2
    subst hl
    exact ⟨_, rfl, h, Below.refl _ _⟩
  · obtain ⟨g, cap, rfl, hBg, hg1, hnc, hcm1, _, hH⟩ := Lib.holds_of_ownsRow h hv
    refine (Tryd.slices_Compact_int g 0 cap zs w hH (by omega) (by omega)).mono ?_
    rintro e w' ⟨rfl, q, rfl⟩
    exact ⟨_, rfl, own_compact h⟩
end Go.Proofs.YtcodmijphejfdaaDoor
