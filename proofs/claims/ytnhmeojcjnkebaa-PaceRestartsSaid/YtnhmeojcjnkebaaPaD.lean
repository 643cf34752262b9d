/- skolemlaw17.first, skolemmake.Small and Free, and the walk of PaceRestarts. Conditions: the script's lists read as 64-bit ints. -/
import Derived.Test.YtnhmeojcjnkebaaPaC
import Derived.Test.YtnhmeojcjnkebaaSmall
import Derived.BigQuiet
set_option linter.unusedVariables false
set_option linter.unusedSimpArgs false
namespace Go.Proofs.Ytnhmeojcjnkebaa
open Go.RowKit

theorem row_nil9 (w : World) : Row w (.slice none 0 0) [] := ⟨none, 0, rfl, Nat.le_refl _, by unfold maxLen; omega, .inl rfl⟩

set_option maxRecDepth 8000 in
set_option maxHeartbeats 4000000 in
theorem first17_any (w : World) :
    Calls Try.prog 4 #[] w fun e w' => e = .returned (.bool true) ∧ Below w.heap.size w w' := by
  have HN := Lib.hid (pcnew_any w _ _ _ _ [] [] [] [] 0 0 (row_nil9 w) (row_nil9 w) (row_nil9 w) (row_nil9 w) (by simp) (by simp) (by simp) (by simp))
  go_enter Try.func4, Try.ntmps4
  go_wp2_with fail
  refine HN.out.mono ?_
  rintro e w1 ⟨g, a, c, rfl, hP, hb⟩
  have HB := Lib.hid hb
  have HL := Lib.hid (least_any _ hP)
  have HF := Lib.hid (left_any _ hP)
  clear hP hb HN
  go_wp2_with fail
  refine HL.out.mono ?_
  rintro e w' ⟨rfl, rfl⟩
  go_wp2_with fail
  refine HF.out.mono ?_
  rintro e w' ⟨rfl, rfl⟩
  go_wp2_with fail
  go_ret
  exact ⟨rfl, HB.out⟩

set_option maxRecDepth 8000 in
set_option maxHeartbeats 2000000 in
theorem small_any (w : World) (a0 a1 a2 a3 : Option Addr) (c0 c1 c2 c3 n0 n1 n2 n3 : Nat) (bud rou : Int) (h0 : n0 ≤ c0) (h1 : n1 ≤ c1) (h2 : n2 ≤ c2) (h3 : n3 ≤ c3) :
    Calls Try.prog 5 #[.agg #[.slice a0 n0 c0, .slice a1 n1 c1, .slice a2 n2 c2, .slice a3 n3 c3, .int .i64 bud, .int .i64 rou]] w fun e w' => e = .returned (.bool (decide (n0 ≤ 50 ∧ n1 ≤ 50 ∧ n2 ≤ 50 ∧ n3 ≤ 50))) ∧ Below w.heap.size w w' := by
  have hal : Below w.heap.size w (w.alloc (.cells #[.slice a0 n0 c0, .slice a1 n1 c1, .slice a2 n2 c2, .slice a3 n3 c3, .int .i64 bud, .int .i64 rou] 24)) := (Below.refl _ _).alloc (Nat.le_refl _) _
  have HAL := Lib.hid hal
  clear hal
  by_cases g0 : n0 ≤ 50
  · have d0 : decide ((n0 : Int) ≤ 50) = true := decide_eq_true (by omega)
    by_cases g1 : n1 ≤ 50
    · have d1 : decide ((n1 : Int) ≤ 50) = true := decide_eq_true (by omega)
      by_cases g2 : n2 ≤ 50
      · have d2 : decide ((n2 : Int) ≤ 50) = true := decide_eq_true (by omega)
        by_cases g3 : n3 ≤ 50
        · have d3 : decide ((n3 : Int) ≤ 50) = true := decide_eq_true (by omega)
          rw [decide_eq_true (show n0 ≤ 50 ∧ n1 ≤ 50 ∧ n2 ≤ 50 ∧ n3 ≤ 50 from ⟨g0, g1, g2, g3⟩)]
          clear g0 g1 g2 g3
          go_enter Try.func5, Try.ntmps5
          go_wp2_with fail
          go_ret
          exact ⟨rfl, HAL.out⟩
        · have d3 : decide ((n3 : Int) ≤ 50) = false := decide_eq_false (by omega)
          rw [decide_eq_false (show ¬(n0 ≤ 50 ∧ n1 ≤ 50 ∧ n2 ≤ 50 ∧ n3 ≤ 50) from fun h => g3 h.2.2.2)]
          clear g0 g1 g2 g3
          go_enter Try.func5, Try.ntmps5
          go_wp2_with fail
          go_ret
          exact ⟨rfl, HAL.out⟩
      · have d2 : decide ((n2 : Int) ≤ 50) = false := decide_eq_false (by omega)
        rw [decide_eq_false (show ¬(n0 ≤ 50 ∧ n1 ≤ 50 ∧ n2 ≤ 50 ∧ n3 ≤ 50) from fun h => g2 h.2.2.1)]
        clear g0 g1 g2
        go_enter Try.func5, Try.ntmps5
        go_wp2_with fail
        go_ret
        exact ⟨rfl, HAL.out⟩
    · have d1 : decide ((n1 : Int) ≤ 50) = false := decide_eq_false (by omega)
      rw [decide_eq_false (show ¬(n0 ≤ 50 ∧ n1 ≤ 50 ∧ n2 ≤ 50 ∧ n3 ≤ 50) from fun h => g1 h.2.1)]
      clear g0 g1
      go_enter Try.func5, Try.ntmps5
      go_wp2_with fail
      go_ret
      exact ⟨rfl, HAL.out⟩
  · have d0 : decide ((n0 : Int) ≤ 50) = false := decide_eq_false (by omega)
    rw [decide_eq_false (show ¬(n0 ≤ 50 ∧ n1 ≤ 50 ∧ n2 ≤ 50 ∧ n3 ≤ 50) from fun h => g0 h.1)]
    clear g0
    go_enter Try.func5, Try.ntmps5
    go_wp2_with fail
    go_ret
    exact ⟨rfl, HAL.out⟩

set_option maxRecDepth 8000 in
set_option maxHeartbeats 2000000 in
theorem free_any (w : World) (a0 a1 a2 a3 : Option Addr) (c0 c1 c2 c3 n0 n1 n2 n3 : Nat) (bud rou : Int) :
    Calls Try.prog 8 #[.agg #[.slice a0 n0 c0, .slice a1 n1 c1, .slice a2 n2 c2, .slice a3 n3 c3, .int .i64 bud, .int .i64 rou]] w fun e w' => e = .returned (.agg #[.slice a0 n0 c0, .slice a1 n1 c1, .slice a2 n2 c2, .slice a3 n3 c3, .int .i64 0, .int .i64 0]) ∧ Below w.heap.size w w' := by
  go_enter Try.func8, Try.ntmps8
  go_wp2_with fail
  refine bodyPost_ret (v := .agg #[.slice a0 n0 c0, .slice a1 n1 c1, .slice a2 n2 c2, .slice a3 n3 c3, .int .i64 0, .int .i64 0]) ?_ rfl ⟨rfl, ((Below.refl _ _).alloc (Nat.le_refl _) _).alloc (by rw [show (w.alloc _).heap.size = w.heap.size + 1 from Array.size_push _]; exact Nat.le_succ _) _⟩
  have hs : (w.alloc (.cells #[.slice a0 n0 c0, .slice a1 n1 c1, .slice a2 n2 c2, .slice a3 n3 c3, .int .i64 0, .int .i64 0] 24)).heap.size = w.heap.size + 1 := Array.size_push _
  have hc : ∀ k v, (#[.slice a0 n0 c0, .slice a1 n1 c1, .slice a2 n2 c2, .slice a3 n3 c3, .int .i64 0, .int .i64 0] : Array Value)[k]? = some v → ((w.alloc (.cells #[.slice a0 n0 c0, .slice a1 n1 c1, .slice a2 n2 c2, .slice a3 n3 c3, .int .i64 0, .int .i64 0] 24)).alloc (.cells #[.slice a0 n0 c0, .slice a1 n1 c1, .slice a2 n2 c2, .slice a3 n3 c3, .int .i64 0, .int .i64 0] 24)).cell? ⟨w.heap.size + 1, k, none⟩ = some v := fun k v h => by
    rw [← hs]
    unfold World.cell?
    rw [show ((w.alloc (.cells #[.slice a0 n0 c0, .slice a1 n1 c1, .slice a2 n2 c2, .slice a3 n3 c3, .int .i64 0, .int .i64 0] 24)).alloc (.cells #[.slice a0 n0 c0, .slice a1 n1 c1, .slice a2 n2 c2, .slice a3 n3 c3, .int .i64 0, .int .i64 0] 24)).heap[(w.alloc (.cells #[.slice a0 n0 c0, .slice a1 n1 c1, .slice a2 n2 c2, .slice a3 n3 c3, .int .i64 0, .int .i64 0] 24)).heap.size]? = _ from heap_alloc_new _ _]
    simpa using h
  have k0 := hc 0 _ rfl
  have k1 := hc 1 _ rfl
  have k2 := hc 2 _ rfl
  have k3 := hc 3 _ rfl
  have k4 := hc 4 _ rfl
  have k5 := hc 5 _ rfl
  simp [results, Try.results8, go_sem, k0, k1, k2, k3, k4, k5]
end Go.Proofs.Ytnhmeojcjnkebaa
