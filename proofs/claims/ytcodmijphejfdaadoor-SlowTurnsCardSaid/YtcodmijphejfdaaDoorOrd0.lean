/- Contracts of cmp.Or at three ints, cmp.Compare, bits.OnesCount, slow.shorter: an order of masks. No conditions beyond those typed. -/
import Derived.Test.YtcodmijphejfdaaDoorTab
import Derived.Lib.Small
import Derived.Deep.RegionHeld3
import Derived.IntWalk
namespace Go.Proofs.YtcodmijphejfdaaDoor
open Go.RowKit Go.Lib

theorem compare_cases (x y : Int) : (x < y ∧ compareInt x y = -1) ∨ (y < x ∧ compareInt x y = 1) ∨ (x = y ∧ compareInt x y = 0) := by
  unfold compareInt
  rcases Int.lt_trichotomy x y with h | h | h
  · exact .inl ⟨h, by rw [if_pos h]⟩
  · exact .inr (.inr ⟨h, by rw [if_neg (by omega), if_neg (by omega)]⟩)
  · exact .inr (.inl ⟨h, by rw [if_neg (by omega), if_pos h]⟩)
/-- The first of three that is not 0. -/
def or3 (x y z : Int) : Int := if x ≠ 0 then x else if y ≠ 0 then y else z
/-- The order of rest, whatever the count of bits. -/
def cfM (f : Nat × Nat → Int) (a b : Nat × Nat) : Int := or3 (compareInt (f a) (f b)) (compareInt a.1 b.1) (compareInt a.2 b.2)

/-- The first that is not 0. -/
def orL (xs : List Int) : Int := (xs.find? fun x => x != 0).getD 0
theorem orL_hit {xs : List Int} {k : Nat} (hk : k < xs.length) (h0 : ∀ j, j < k → xs.getD j 0 = 0) (h : xs.getD k 0 ≠ 0) : orL xs = xs.getD k 0 := by
  unfold orL
  have h1 : xs.find? (fun x => x != 0) = some (xs[k]) := by
    rw [List.find?_eq_some_iff_getElem]
    refine ⟨by simpa [List.getD, hk] using h, k, hk, rfl, fun j hj => ?_⟩
    have := h0 j hj
    simpa [List.getD, show j < xs.length by omega] using this
  rw [h1]
  simp [List.getD, hk]
theorem orL_none {xs : List Int} (h0 : ∀ j, j < xs.length → xs.getD j 0 = 0) : orL xs = 0 := by
  unfold orL
  have h1 : xs.find? (fun x => x != 0) = none := by
    rw [List.find?_eq_none]
    intro x hx
    obtain ⟨j, hj, rfl⟩ := List.getElem_of_mem hx
    have := h0 j hj
    simpa [List.getD, hj] using this
  rw [h1]
  rfl
theorem orL_three (x y z : Int) : orL [x, y, z] = or3 x y z := by
  unfold orL or3
  rw [List.find?_cons, List.find?_cons, List.find?_cons, List.find?_nil]
  cases hx : (x != 0) <;> cases hy : (y != 0) <;> cases hz : (z != 0) <;> simp_all

set_option maxHeartbeats 1000000 in
theorem or_any (v : Value) (xs : List Int) (w : World) (hv : Row w v xs) :
    Calls Tryd.prog 81 #[v] w fun e w' => e = .returned (.int .i64 (orL xs)) ∧ w = w' := by
  obtain ⟨a, c, rfl, hc1, hc2, hr⟩ := hv
  unfold maxLen at hc2
  have HR := Lib.hid hr; clear hr
  have HHIT := Lib.hid (fun k hk => @orL_hit xs k hk)
  have HNONE := Lib.hid (@orL_none xs)
  generalize orL xs = r at *
  generalize hN : xs.length = m at *
  clear hN
  go_enter Tryd.func81, Tryd.ntmps81
  go_wp2_with fail
  go_loop [5, 8] (fun _ i => ∃ k : Nat, k ≤ m ∧ i = .int .i64 k ∧ Hid (∀ j, j < k → xs.getD j 0 = 0)) (fun _ i => m - (intOf i).toNat)
  case atStart => exact ⟨0, Nat.zero_le _, rfl, fun j hj => absurd hj (Nat.not_lt_zero _)⟩
  case round =>
    obtain ⟨k, hk, rfl, HQ⟩ := hrel
    by_cases hlt : k < m
    · obtain ⟨b, off, ha, hb, hc⟩ := HR.out.resolve_left (by omega)
      subst ha
      have g1 := hc k hlt
      have HH := Lib.hid (HHIT.out k hlt HQ.out)
      have HQ1 : Hid (xs.getD k 0 = 0 → ∀ j, j < k + 1 → xs.getD j 0 = 0) := fun h j hj => by
        by_cases e : j = k
        · subst e; exact h
        · exact HQ.out j (by omega)
      clear hc
      generalize xs.getD k 0 = y at *
      cases hy : (y != 0) with
      | true =>
        have HRR := Lib.hid (HH.out (by simpa using hy))
        clear HH HQ1
        go_wp2_with fail
        go_ret
        exact ⟨ret_int HRR.out.symm, rfl⟩
      | false =>
        have HQ2 := Lib.hid (HQ1.out (by simpa using hy))
        clear HH HQ1
        go_wp2_with fail
        go_round
        case rel => exact ⟨k + 1, by omega, by go_num, HQ2.out⟩
        case measure => simp [intOf]; omega
    · have hkm : k = m := by omega
      have HRR := Lib.hid (HNONE.out (by rw [← hkm]; exact HQ.out))
      clear HQ HNONE HHIT
      subst hkm
      go_wp2_with fail
      go_ret
      exact ⟨ret_int HRR.out.symm, rfl⟩

set_option maxHeartbeats 2000000 in
theorem ones64 (x : Int) : ∃ r : Int, ∀ w, Calls Tryd.prog 101 #[.int .u64 x] w fun e w' => e = .returned (.int .i64 r) ∧ w = w' := by
  constructor
  intro w
  go_enter Tryd.func101, Tryd.ntmps101
  go_wp2_with fail
  go_ret
  exact ⟨rfl, rfl⟩

set_option maxHeartbeats 1000000 in
theorem ones_any (x : Int) : ∃ r : Int, ∀ w, Calls Tryd.prog 83 #[.int .u64 x] w fun e w' => e = .returned (.int .i64 r) ∧ w = w' := by
  obtain ⟨r, hr⟩ := ones64 x
  refine ⟨r, fun w => ?_⟩
  have HR := Lib.hid hr
  clear hr
  go_enter Tryd.func83, Tryd.ntmps83
  go_wp2_with (go_at_call 101; refine (HR.out _).mono ?_; rintro e w' ⟨rfl, rfl⟩)
  go_ret
  exact ⟨rfl, rfl⟩
/-- How many bits a mask has: what the library answers. -/
noncomputable def onesM (x : Int) : Int := Classical.choose (ones_any x)
theorem onesM_any (x : Int) (w : World) : Calls Tryd.prog 83 #[.int .u64 x] w fun e w' => e = .returned (.int .i64 (onesM x)) ∧ w = w' := Classical.choose_spec (ones_any x) w

set_option maxHeartbeats 1000000 in
theorem cmpI_any (x y : Int) (w : World) : Calls Tryd.prog 82 #[.int .i64 x, .int .i64 y] w fun e w' => e = .returned (.int .i64 (compareInt x y)) ∧ w = w' := by
  have HN : Hid (∀ z (W : World), Calls Tryd.prog 90 #[.int .i64 z] W fun e w' => e = .returned (.bool false) ∧ W = w') := fun z W => by
    have hz : (z != z) = false := by simp
    go_enter Tryd.func90, Tryd.ntmps90
    go_wp2_with fail
    go_ret
    exact ⟨rfl, rfl⟩
  rcases compare_cases x y with ⟨h, e⟩ | ⟨h, e⟩ | ⟨h, e⟩
  all_goals
    rw [e]
    clear e
  · go_enter Tryd.func82, Tryd.ntmps82
    go_wp2_with (go_at_call 90; refine (HN.out _ _).mono ?_; rintro e w' ⟨rfl, rfl⟩)
    go_ret
    exact ⟨rfl, rfl⟩
  · have h2 : ¬ x < y := by omega
    go_enter Tryd.func82, Tryd.ntmps82
    go_wp2_with (go_at_call 90; refine (HN.out _ _).mono ?_; rintro e w' ⟨rfl, rfl⟩)
    go_ret
    exact ⟨rfl, rfl⟩
  · subst h
    go_enter Tryd.func82, Tryd.ntmps82
    go_wp2_with (go_at_call 90; refine (HN.out _ _).mono ?_; rintro e w' ⟨rfl, rfl⟩)
    go_ret
    exact ⟨rfl, rfl⟩
end Go.Proofs.YtcodmijphejfdaaDoor
