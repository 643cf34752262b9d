/- Contracts of the statements' helpers for errors: skolemref.None, Bare, Placed, SameFault; skolemsee.sentinels, Alike, sentinel, Fault, Same. Conditions: the package's errors lie as 'Sents' says. -/
import Derived.Test.YtfkodpglgeghlaaDoorSents
import Derived.Test.YtfkodpglgeghlaaDoorChecked
import Derived.Laws.ResultCell
import Derived.WalkLawsBesides
import Derived.WalkSpells
import Derived.WideLaws
import Derived.Deep.QuietTactic
import Derived.BigQuiet
import Derived.Deep.RegionWith
import Derived.Deep.DeepCutAuto
namespace Go.Proofs.YtfkodpglgeghlaaDoor
open Go.RowKit

/-- A fault as a value. -/
def faultV (c : Int) (p : Bool) (k : Int) : Value := .agg #[.int .i64 c, .bool p, .int .i64 k]

set_option maxHeartbeats 400000 in
theorem none_any (w : World) : Calls Tryd.prog 37 #[] w fun e w' => e = .returned (faultV 0 false 0) ∧ Below w.heap.size w w' := by
  go_enter Tryd.func37, Tryd.ntmps37
  go_wp2
  exact bodyPost_ret (v := faultV 0 false 0) (by simp [results, Tryd.results37, go_sem, faultV]) rfl ⟨rfl, ((Below.refl _ w).alloc (Nat.le_refl _) _)⟩

set_option maxHeartbeats 400000 in
theorem bare_any (c : Int) (w : World) : Calls Tryd.prog 51 #[.int .i64 c] w fun e w' => e = .returned (faultV c false 0) ∧ Below w.heap.size w w' := by
  go_enter Tryd.func51, Tryd.ntmps51
  go_wp2
  exact bodyPost_ret (v := faultV c false 0) (by simp [results, Tryd.results51, go_sem, faultV]) rfl ⟨rfl, ((Below.refl _ w).alloc (Nat.le_refl _) _)⟩

set_option maxHeartbeats 400000 in
theorem placed_any (c k : Int) (w : World) (hc : c ≠ 0) : Calls Tryd.prog 18 #[.int .i64 c, .int .i64 k] w fun e w' => e = .returned (faultV c true k) ∧ Below w.heap.size w w' := by
  have hcb : (c == 0) = false := by simp [hc]
  go_enter Tryd.func18, Tryd.ntmps18
  go_wp2
  exact bodyPost_ret (v := faultV c true k) (by simp [results, Tryd.results18, go_sem, faultV]) rfl ⟨rfl, ((Below.refl _ w).alloc (Nat.le_refl _) _)⟩

set_option maxHeartbeats 1000000 in
theorem sameFault_yes (c : Int) (p : Bool) (k : Int) (w : World) : Calls Tryd.prog 35 #[faultV c p k, faultV c p k] w fun e w' => e = .returned (.bool true) ∧ Below w.heap.size w w' := by
  unfold faultV
  have h1 : (c == c) = true := by simp
  have h2 : (p == p) = true := by simp
  have h3 : (k == k) = true := by simp
  go_enter Tryd.func35, Tryd.ntmps35
  go_wp2
  go_ret
  exact ⟨rfl, ((Below.refl _ w).alloc (Nat.le_refl _) _).alloc (by simp) _⟩

set_option maxHeartbeats 1000000 in
theorem sentinels_any (A : Nat → Addr) (w : World) (h : Sents w A) : Calls Tryd.prog 70 #[] w fun e w' => e = .returned (.slice (some ⟨w.heap.size, 0, none⟩) 7 7) ∧ Below w.heap.size w w' ∧ ∀ i, i < 7 → w'.cell? ⟨w.heap.size, i, none⟩ = some (sentV A i) := by
  have h0 := h.c0; have h1 := h.c1; have h2 := h.c2; have h3 := h.c3; have h4 := h.c4; have h5 := h.c5; have h6 := h.c6
  clear h
  go_enter Tryd.func70, Tryd.ntmps70
  go_wp2
  go_ret
  refine ⟨rfl, (Below.refl _ w).alloc (Nat.le_refl _) _, fun i hi => ?_⟩
  rw [World.cell?_alloc_at _ _ _ _ rfl]
  match i, hi with
  | 0, _ => rfl
  | 1, _ => rfl
  | 2, _ => rfl
  | 3, _ => rfl
  | 4, _ => rfl
  | 5, _ => rfl
  | 6, _ => rfl

theorem compES : (Tryd.prog.info? 135).map (·.comparable) = some true := by kernel_rfl
theorem sizeES : (Tryd.prog.info? 152).map (·.size) = some 1 := by kernel_rfl

set_option maxHeartbeats 1000000 in
theorem alike_same (A : Nat → Addr) (i : Nat) (w : World) : Calls Tryd.prog 71 #[sentV A i, sentV A i] w fun e w' => e = .returned (.bool true) ∧ w = w' := by
  obtain ⟨ip, hi, hc⟩ := Option.map_eq_some_iff.1 compES
  obtain ⟨jp, hj, hs⟩ := Option.map_eq_some_iff.1 sizeES
  have heq := run_eql_iface_ptr_same (P := Tryd.prog) w (A i) Tryd.underlying31 Tryd.underlying135 hi hc hj
  clear hi hc hj hs
  unfold sentV
  generalize A i = a at *
  go_enter Tryd.func71, Tryd.ntmps71
  go_wp2
  go_ret
  exact ⟨rfl, rfl⟩

set_option maxHeartbeats 1000000 in
theorem alike_other (A : Nat → Addr) (i j : Nat) (w : World) (h : Sents w A) (h1 : i < 7) (h2 : j < 7) (hne : i ≠ j) : Calls Tryd.prog 71 #[sentV A i, sentV A j] w fun e w' => e = .returned (.bool false) ∧ w = w' := by
  obtain ⟨ip, hi, hc⟩ := Option.map_eq_some_iff.1 compES
  obtain ⟨jp, hj, hs⟩ := Option.map_eq_some_iff.1 sizeES
  obtain ⟨c1, t1, r1⟩ := h.row i h1
  obtain ⟨c2, t2, r2⟩ := h.row j h2
  have heq := run_eql_iface_ptr_other (P := Tryd.prog) w Tryd.underlying31 Tryd.underlying135 hi hc hj (by rw [hs]; decide) (h.ne i j h1 h2 hne) r1 r2
  clear hi hc hj hs r1 r2 h h1 h2
  unfold sentV
  generalize A i = a at *
  generalize A j = b at *
  go_enter Tryd.func71, Tryd.ntmps71
  go_wp2
  go_ret
  exact ⟨rfl, rfl⟩

set_option maxHeartbeats 1000000 in
theorem sentinel_any (A : Nat → Addr) (i : Nat) (w : World) (h : Sents w A) (hi : i < 7) : Calls Tryd.prog 52 #[sentV A i] w fun e w' => e = .returned (.int .i64 (101 + (i : Int))) ∧ Below w.heap.size w w' := by
  have HS := Lib.hid (sentinels_any A w h)
  have HA := Lib.hid (fun W (hW : Below w.heap.size w W) (j : Nat) (hj : j < 7) (hne : i ≠ j) => alike_other A i j W (h.keep hW) hi hj hne)
  have HB := Lib.hid (fun W => alike_same A i W)
  clear h
  go_enter Tryd.func52, Tryd.ntmps52
  go_wp2_with fail
  refine HS.out.mono ?_
  rintro e w1 ⟨rfl, hb, hc⟩
  have HC := Lib.hid hc; clear hc
  go_wp2_with fail
  go_loop [4] (fun v => ∃ k : Nat, k ≤ i ∧ v = .int .i64 k) (fun v => i - (intOf v).toNat)
  case atStart => exact ⟨0, Nat.zero_le _, rfl⟩
  case round =>
    obtain ⟨k, hk, rfl⟩ := hrel
    have g1 := HC.out k (by omega)
    by_cases hlt : k < i
    · have hcon := Lib.hid (HA.out w1 hb k (by omega) (by omega))
      generalize sentV A k = vk at *
      generalize sentV A i = vi at *
      go_wp2_with (go_at_call 71; refine hcon.out.mono ?_; rintro e w' ⟨rfl, rfl⟩)
      go_round
      case rel => exact ⟨k + 1, by omega, by go_num⟩
      case measure => simp [intOf]; omega
    · obtain rfl : k = i := by omega
      have hcon := Lib.hid (HB.out w1)
      generalize sentV A k = vk at *
      go_wp2_with (go_at_call 71; refine hcon.out.mono ?_; rintro e w' ⟨rfl, rfl⟩)
      go_ret
      exact ⟨rfl, hb⟩
end Go.Proofs.YtfkodpglgeghlaaDoor
