/- The contract of slices.Grow at []api.Block and at []int of no place, as the kit's library proves it for any program. Conditions: those typed. -/
import Derived.Test.YtcodmijphejfdaaDoorBlkM
import Derived.Shelf.Spec.SlicesGrow
namespace Go.Proofs.YtcodmijphejfdaaDoor
open Go.RowKit Go.Shelf Go.Lib

def grB : Ren := ⟨fun | 4 => 48 | n => n, fun | 0 => 0 | 3 => 3 | 4 => 4 | 9 => 9 | 20 => 20 | 22 => 22 | 25 => 58 | n => n, fun | n => n⟩
def grI : Ren := ⟨fun | 4 => 91 | n => n, fun | 0 => 0 | 3 => 3 | 4 => 4 | 9 => 9 | 20 => 20 | 22 => 30 | 25 => 3 | n => n, fun | n => n⟩
theorem layGB : Lays8.n4 Tryd.prog grB := {
  mixed := by kernel_rfl
  f4 := Exists.intro "slices.Grow[[]skolem/api.Block,skolem/api.Block]" ⟨by kernel_rfl, Tryd.func48.trans (congrArg some (by kernel_rfl))⟩
  t0 := Tryd.underlying0
  a0 := Tryd.isAgg0
  z0 := Tryd.sizeOf0
  v0 := Tryd.zeroValue0
  t3 := Tryd.underlying3
  a3 := Tryd.isAgg3
  z3 := Tryd.sizeOf3
  v3 := Tryd.zeroValue3
  t4 := Tryd.underlying4
  a4 := Tryd.isAgg4
  z4 := Tryd.sizeOf4
  v4 := Tryd.zeroValue4
  t9 := Tryd.underlying9
  a9 := Tryd.isAgg9
  z9 := Tryd.sizeOf9
  v9 := Tryd.zeroValue9
  t20 := Tryd.underlying20
  a20 := Tryd.isAgg20
  z20 := Tryd.sizeOf20
  v20 := Tryd.zeroValue20
  t22 := Tryd.underlying22
  a22 := Tryd.isAgg22
  z22 := Tryd.sizeOf22
  v22 := Tryd.zeroValue22 }
theorem layGI : Lays8.n4 Tryd.prog grI := {
  mixed := by kernel_rfl
  f4 := Exists.intro "slices.Grow[[]int,int]" ⟨by kernel_rfl, Tryd.func91.trans (congrArg some (by kernel_rfl))⟩
  t0 := Tryd.underlying0
  a0 := Tryd.isAgg0
  z0 := Tryd.sizeOf0
  v0 := Tryd.zeroValue0
  t3 := Tryd.underlying3
  a3 := Tryd.isAgg3
  z3 := Tryd.sizeOf3
  v3 := Tryd.zeroValue3
  t4 := Tryd.underlying4
  a4 := Tryd.isAgg4
  z4 := Tryd.sizeOf4
  v4 := Tryd.zeroValue4
  t9 := Tryd.underlying9
  a9 := Tryd.isAgg9
  z9 := Tryd.sizeOf9
  v9 := Tryd.zeroValue9
  t20 := Tryd.underlying20
  a20 := Tryd.isAgg20
  z20 := Tryd.sizeOf20
  v20 := Tryd.zeroValue20
  t22 := Tryd.underlying30
  a22 := Tryd.isAgg30
  z22 := Tryd.sizeOf30
  v22 := Tryd.zeroValue30 }
theorem own_fresh (w : World) (E : TypeId) (size cap : Nat) (cs : Array Value) (hs : cs.size = cap * size) (hm : cap ≤ maxLen) : (w.drew.alloc (.cells cs E)).ownsRow w.heap.size E size (.slice (some ⟨w.heap.size, 0, none⟩) 0 cap) 0 [] :=
  ⟨by simp, .inr ⟨w.heap.size, cap, cs, rfl, Nat.le_refl _, heap_alloc_new w.drew _, Nat.zero_le _, hm, hs, by simp⟩⟩
/-- A new row with room for n, of no element as yet. -/
theorem growB_new (n : Nat) (w : World) (h0 : 0 < n) (hn : n ≤ 1000000000) :
    Calls Tryd.prog 48 #[.slice none 0 0, .int .i64 n] w fun e w' => ∃ v, e = .returned v ∧ w'.ownsRow w.heap.size 58 2 v 0 [] ∧ Below w.heap.size w w' := by
  obtain ⟨i0, hi, hz0, hz1, hz2⟩ := info_parts infoBlk
  refine (Any8.slices_Grow_grow layGB i0 _ hi hz0 (by omega) none 0 0 n [] w (Nat.le_refl _) (by omega) (by rw [hz2]; omega) (by omega) (by simp) (fun _ => rfl) (fun a e => by cases e)).mono ?_
  rintro e w' ⟨rfl, rfl⟩
  have hg := grownCap_ge w (0 + n) 0 (grB.t 25)
  have hg2 := grownCap_le_maxLen w (0 + n) 0 (grB.t 25) (by unfold maxLen; omega)
  obtain ⟨G, hG⟩ : ∃ G, G = grownCap w (0 + n) 0 (grB.t 25) := ⟨_, rfl⟩
  rw [← hG] at hg hg2 ⊢
  clear hG
  refine ⟨_, rfl, own_fresh w _ _ _ _ ?_ hg2, ?_⟩
  · have hzc : (Value.agg #[.bool false, .slice none 0 0]).cells.size = 2 := rfl
    simp [Builtin.zeroCells, hzc]
    omega
  · exact ((Below.refl _ w).drew).alloc (show w.heap.size ≤ w.drew.heap.size from Nat.le_refl _) _
theorem growI_new (n : Nat) (w : World) (h0 : 0 < n) (hn : n ≤ 1000000000) :
    Calls Tryd.prog 91 #[.slice none 0 0, .int .i64 n] w fun e w' => ∃ v, e = .returned v ∧ w'.ownsRow w.heap.size 3 1 v 0 [] ∧ Below w.heap.size w w' := by
  obtain ⟨i0, hi, hz0, hz1, hz2⟩ := info_parts infoInt
  refine (Any8.slices_Grow_grow layGI i0 _ hi hz0 (by omega) none 0 0 n [] w (Nat.le_refl _) (by omega) (by rw [hz2]; omega) (by omega) (by simp) (fun _ => rfl) (fun a e => by cases e)).mono ?_
  rintro e w' ⟨rfl, rfl⟩
  have hg := grownCap_ge w (0 + n) 0 (grI.t 25)
  have hg2 := grownCap_le_maxLen w (0 + n) 0 (grI.t 25) (by unfold maxLen; omega)
  obtain ⟨G, hG⟩ : ∃ G, G = grownCap w (0 + n) 0 (grI.t 25) := ⟨_, rfl⟩
  rw [← hG] at hg hg2 ⊢
  clear hG
  refine ⟨_, rfl, own_fresh w _ _ _ _ ?_ hg2, ?_⟩
  · have hzc : (Value.int .i64 0).cells.size = 1 := rfl
    simp [Builtin.zeroCells, hzc]
    omega
  · exact ((Below.refl _ w).drew).alloc (show w.heap.size ≤ w.drew.heap.size from Nat.le_refl _) _
theorem growI_zero (w : World) :
    Calls Tryd.prog 91 #[.slice none 0 0, .int .i64 0] w fun e w' => e = .returned (.slice none 0 0) ∧ w' = w :=
  Any8.slices_Grow_room layGI none 0 0 0 w (Nat.le_refl _) (by omega) (by omega) (by omega)
end Go.Proofs.YtcodmijphejfdaaDoor
