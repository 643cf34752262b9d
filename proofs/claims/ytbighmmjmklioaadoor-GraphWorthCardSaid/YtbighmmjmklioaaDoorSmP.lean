/- Contracts of skolemref.SamePairs, SameCircuit at what reads alike: true; of skolemlaw8.code at an error that reads as a number. Conditions: those typed. -/
import Derived.Test.YtbighmmjmklioaaDoorCir
import Derived.Test.YtbighmmjmklioaaDoorRead
import Derived.Test.YtbighmmjmklioaaDoorFault
namespace Go.Proofs.YtbighmmjmklioaaDoor
open Go.RowKit

set_option maxRecDepth 8000 in
set_option maxHeartbeats 2000000 in
theorem samePairs_yes (v u : Value) (ps : List (Int × Int)) (w : World) (hv : PRow w v ps) (hu : PRow w u ps) :
    Calls Tryd.prog 53 #[v, u] w fun e w' => e = .returned (.bool true) ∧ Below w.heap.size w w' := by
  obtain ⟨a, c, rfl, hxc, hcm, hx⟩ := hv
  obtain ⟨a', c', rfl, hyc, hcm', hy⟩ := hu
  unfold maxLen at hcm hcm'
  have HX := Lib.hid hx; clear hx
  have HY := Lib.hid hy; clear hy
  have hne : ((ps.length : Int) != (ps.length : Int)) = false := by simp
  generalize hn : ps.length = n at *
  have HN := Lib.hid hn; clear hn
  go_enter Tryd.func53, Tryd.ntmps53
  go_wp2_with fail
  go_loopw [5, 6] (fun i _ wr => ∃ k q : Nat, k ≤ n ∧ i = .int .i64 k ∧ wr = w.drewN q) (fun i _ _ => n - (intOf i).toNat)
  case atStart => exact ⟨0, 0, Nat.zero_le _, rfl, rfl⟩
  case round =>
    obtain ⟨k, q, hk, rfl, rfl⟩ := hrel
    by_cases hlt : k < n
    · obtain ⟨b, off, ha, hb, hx⟩ := HX.out.resolve_left (by omega)
      obtain ⟨b', off', ha', hb', hy⟩ := HY.out.resolve_left (by omega)
      subst ha; subst ha'
      obtain ⟨x0, x1⟩ := hx k hlt
      obtain ⟨y0, y1⟩ := hy k hlt
      clear hx hy
      generalize (ps.getD k (0, 0)).1 = p0 at *
      generalize (ps.getD k (0, 0)).2 = p1 at *
      go_wp2_with fail
      go_quiet (fail)
      go_wp2_with fail
      go_roundw
      case rel => exact ⟨k + 1, _, by omega, by go_num, rfl⟩
      case measure => simp [intOf]; omega
    · have hkn : k = n := by omega
      subst hkn
      go_wp2_with fail
      go_ret
      exact ⟨rfl, below_drewN (Below.refl _ _) _⟩

set_option maxRecDepth 8000 in
set_option maxHeartbeats 2000000 in
theorem sameCir_yes (n : Int) (u v u' v' : Value) (ps : List (Int × Int)) (os : List Int) (w : World) (h1 : PRow w u ps) (h2 : Row w v os) (h3 : PRow w u' ps) (h4 : Row w v' os) :
    Calls Tryd.prog 26 #[circV n u v, circV n u' v'] w fun e w' => e = .returned (.bool true) ∧ Below w.heap.size w w' := by
  have HP := Lib.hid (fun W (hW : Below w.heap.size w W) => samePairs_yes u u' ps W (h1.keep hW) (h3.keep hW))
  have HI := Lib.hid (fun W (hW : Below w.heap.size w W) => sameInts_yes v v' os os W (h2.keep hW) (h4.keep hW) rfl)
  obtain ⟨a1, c1, rfl, _⟩ := h1
  obtain ⟨a2, c2, rfl, _⟩ := h2
  obtain ⟨a3, c3, rfl, _⟩ := h3
  obtain ⟨a4, c4, rfl, _⟩ := h4
  unfold circV
  generalize ps.length = n1 at *
  generalize os.length = n2 at *
  have HA : Hid (Below w.heap.size w ((w.alloc (.cells #[.int .i64 n, .slice a1 n1 c1, .slice a2 n2 c2] 43)).alloc (.cells #[.int .i64 n, .slice a3 n1 c3, .slice a4 n2 c4] 43))) := ((Below.refl _ w).alloc (Nat.le_refl _) _).alloc (by simp) _
  have hnn : (n == n) = true := by simp
  have HZ : Hid (∀ W, Below (w.heap.size + 2) ((w.alloc (.cells #[.int .i64 n, .slice a1 n1 c1, .slice a2 n2 c2] 43)).alloc (.cells #[.int .i64 n, .slice a3 n1 c3, .slice a4 n2 c4] 43)) W → W.cell? ⟨w.heap.size, 2, none⟩ = some (.slice a2 n2 c2) ∧ W.cell? ⟨w.heap.size + 1, 2, none⟩ = some (.slice a4 n2 c4)) := fun W hW => by
    have hz : (w.alloc (.cells #[.int .i64 n, .slice a1 n1 c1, .slice a2 n2 c2] 43)).heap.size = w.heap.size + 1 := by simp
    have hb : Below (w.heap.size + 1) (w.alloc (.cells #[.int .i64 n, .slice a1 n1 c1, .slice a2 n2 c2] 43)) ((w.alloc (.cells #[.int .i64 n, .slice a1 n1 c1, .slice a2 n2 c2] 43)).alloc (.cells #[.int .i64 n, .slice a3 n1 c3, .slice a4 n2 c4] 43)) := (Below.refl _ _).alloc (by simp) _
    refine ⟨?_, ?_⟩
    · rw [hW.cell (p := ⟨w.heap.size, 2, none⟩) (by simp), hb.cell (p := ⟨w.heap.size, 2, none⟩) (by simp), cell_of_row _ _ 2 _ 43 (0, 0) (heap_alloc_new _ _)]; rfl
    · rw [hW.cell (p := ⟨w.heap.size + 1, 2, none⟩) (by simp), ← hz, cell_of_row _ _ 2 _ 43 (0, 0) (heap_alloc_new _ _)]; rfl
  go_enter Tryd.func26, Tryd.ntmps26
  go_wp2_with fail
  refine (HP.out _ HA.out).mono ?_
  rintro e w1 ⟨rfl, hb1⟩
  have HB1 := Lib.hid (HA.out.trans (hb1.mono HA.out.size))
  obtain ⟨z1, z2⟩ := HZ.out w1 (hb1.mono (by simp))
  clear hb1
  go_wp2_with fail
  refine (HI.out _ HB1.out).mono ?_
  rintro e w2 ⟨rfl, hb2⟩
  go_wp2_with fail
  go_ret
  exact ⟨rfl, HB1.out.trans (hb2.mono HB1.out.size)⟩

theorem fldCode (c : Int) (p : Bool) (k : Int) (w : World) : (Instr.field 88 (.agg #[.int .i64 c, .bool p, .int .i64 k]) 0).run Tryd.prog w = .ok (.int .i64 c) w := by kernel_rfl
set_option maxRecDepth 8000 in
set_option maxHeartbeats 1000000 in
theorem code_any (ev : Value) (c : Int) (p : Bool) (k : Int) (w : World) (h : ErrAs w ev c p k) : Calls Tryd.prog 38 #[ev] w fun e w' => e = .returned (.int .i64 c) ∧ Below w.heap.size w w' := by
  have HE := Lib.hid (h w (Below.refl _ _))
  clear h
  unfold faultV at HE
  have hfd := fldCode c p k
  go_enter Tryd.func38, Tryd.ntmps38
  go_wp2_with fail
  refine HE.out.mono ?_
  rintro e w1 ⟨rfl, hb⟩
  go_wp2_with fail
  go_ret
  exact ⟨rfl, hb⟩
end Go.Proofs.YtbighmmjmklioaaDoor
