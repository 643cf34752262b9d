/- Contracts of the helpers that only read slices of ints: skolemref.SameInts, skolemref.Has, skolemmake.Near. Conditions: the slices read as the lists named ('Row'). -/
import Derived.Test.YtmlgpnaikdpifaaSmall
import Derived.Deep.QuietTactic
import Derived.BigQuiet
import Derived.RegionTactic
import Derived.WalkSmall
import Derived.Deep.Draws
namespace Go.Proofs.Ytmlgpnaikdpifaa
open Go.RowKit

theorem below_draws {w w' : World} (h : ∃ n, w' = w.drewN n) : Below w.heap.size w w' := by
  obtain ⟨n, rfl⟩ := h
  exact below_drewN (Below.refl _ _) n

theorem getD_ext {xs ys : List Int} (h : xs.length = ys.length) (k : ∀ j, j < xs.length → xs.getD j 0 = ys.getD j 0) : xs = ys := by
  apply List.ext_getElem h
  intro i h1 h2
  have := k i h1
  simpa [List.getD, h1, h2] using this

set_option maxHeartbeats 1000000 in
theorem sameInts_any (v u : Value) (xs ys : List Int) (w : World) (hv : Row w v xs) (hu : Row w u ys) :
    Calls Try.prog 49 #[v, u] w fun e w' => e = .returned (.bool (decide (xs = ys))) ∧ ∃ n, w' = w.drewN n := by
  obtain ⟨a, c, rfl, hxc, hcm, hx⟩ := hv
  obtain ⟨a', c', rfl, hyc, hcm', hy⟩ := hu
  unfold maxLen at hcm hcm'
  by_cases hl : xs.length = ys.length
  · rw [← hl]
    rw [← hl] at hy hyc
    by_cases h0 : xs.length = 0
    · have hxe : xs = [] := List.eq_nil_of_length_eq_zero h0
      have hye : ys = [] := List.eq_nil_of_length_eq_zero (by omega)
      subst hxe; subst hye
      clear hx hy hl h0
      go_enter Try.func49, Try.ntmps49
      go_wp2
      refine wp_loop_rounds 1 ?_
      rw [rounds_succ]
      go_wp2
      go_ret
      exact ⟨by simp, 0, rfl⟩
    · obtain ⟨b, off, rfl, hb, hx⟩ := hx.resolve_left h0
      obtain ⟨b', off', rfl, hb', hy⟩ := hy.resolve_left h0
      have HX := Lib.hid hx; clear hx
      have HY := Lib.hid hy; clear hy
      have HL := Lib.hid hl; clear hl
      generalize hn : xs.length = n at *
      have HN := Lib.hid hn; clear hn
      have hne : ((n : Int) != (n : Int)) = false := by simp
      go_enter Try.func49, Try.ntmps49
      go_wp2
      go_loopw [5, 6] (fun i _ wr => ∃ k q : Nat, k ≤ n ∧ i = .int .i64 k ∧ wr = w.drewN q ∧ Hid (∀ j, j < k → xs.getD j 0 = ys.getD j 0)) (fun i _ _ => n - (intOf i).toNat)
      case atStart => exact ⟨0, 0, Nat.zero_le _, rfl, rfl, fun j hj => absurd hj (Nat.not_lt_zero _)⟩
      case round =>
        obtain ⟨k, q, hk, rfl, rfl, HQ⟩ := hrel
        by_cases hlt : k < n
        · have g1 : w.cell? ⟨b, off + k, none⟩ = some (.int .i64 (xs.getD k 0)) := HX.out k hlt
          have g2 : w.cell? ⟨b', off' + k, none⟩ = some (.int .i64 (ys.getD k 0)) := HY.out k hlt
          generalize hxk : xs.getD k 0 = x at g1
          generalize hyk : ys.getD k 0 = y at g2
          have HXY := Lib.hid (And.intro hxk hyk); clear hxk hyk
          by_cases he : x = y
          · subst he
            go_wp2
            go_quiet (fail)
            go_wp2
            go_roundw
            case rel =>
              refine ⟨k + 1, _, by omega, by go_num, rfl, fun j hj => ?_⟩
              by_cases e : j = k
              · rw [e, HXY.out.1, HXY.out.2]
              · exact HQ.out j (by omega)
            case measure => simp [intOf]; omega
          · have heb : (x == y) = false := by simp [he]
            go_wp2
            go_quiet (fail)
            go_wp2
            go_ret
            refine ⟨ret_bool ?_, _, rfl⟩
            have : xs ≠ ys := fun e => he (by rw [← HXY.out.1, ← HXY.out.2, e])
            simp [this]
        · have hkn : k = n := by omega
          have hall : xs = ys := getD_ext (by rw [HN.out]; exact HL.out) (fun j hj => HQ.out j (by rw [HN.out] at hj; omega))
          have HA := Lib.hid hall; clear hall
          subst hkn
          go_wp2
          go_ret
          exact ⟨ret_bool (by simp [HA.out]), _, rfl⟩
  · have hne : (!((xs.length : Int) == (ys.length : Int))) = true := by simp; omega
    have hne' : ((xs.length : Int) == (ys.length : Int)) = false := by simp; omega
    have hxy : decide (xs = ys) = false := by
      simp; intro e; exact hl (by rw [e])
    have HD := Lib.hid hxy; clear hxy
    clear hx hy
    generalize xs.length = n at *
    generalize ys.length = m at *
    generalize decide (xs = ys) = d at *
    go_enter Try.func49, Try.ntmps49
    go_wp2
    go_ret
    exact ⟨ret_bool HD.out.symm, 0, rfl⟩

theorem sameInts_yes (v u : Value) (xs ys : List Int) (w : World) (hv : Row w v xs) (hu : Row w u ys) (h : xs = ys) :
    Calls Try.prog 49 #[v, u] w fun e w' => e = .returned (.bool true) ∧ Below w.heap.size w w' :=
  (sameInts_any v u xs ys w hv hu).mono fun e w' ⟨he, hw⟩ => ⟨by rw [he]; simp [h], below_draws hw⟩

set_option maxHeartbeats 1000000 in
theorem has_any (v : Value) (xs : List Int) (x : Int) (w : World) (hv : Row w v xs) :
    Calls Try.prog 32 #[v, .int .i64 x] w fun e w' => e = .returned (.bool (decide (x ∈ xs))) ∧ w = w' := by
  obtain ⟨a, c, rfl, hxc, hcm, hx⟩ := hv
  unfold maxLen at hcm
  by_cases h0 : xs.length = 0
  · have hxe : xs = [] := List.eq_nil_of_length_eq_zero h0
    subst hxe
    clear hx h0
    go_enter Try.func32, Try.ntmps32
    go_wp2
    refine wp_loop_rounds 1 ?_
    rw [rounds_succ]
    go_wp2
    go_ret
    exact ⟨by simp, rfl⟩
  · obtain ⟨b, off, rfl, hb, hx⟩ := hx.resolve_left h0
    have HX := Lib.hid hx; clear hx
    generalize hn : xs.length = n at *
    have HN := Lib.hid hn; clear hn
    go_enter Try.func32, Try.ntmps32
    go_wp2
    go_loop [5] (fun i => ∃ k : Nat, k ≤ n ∧ i = .int .i64 k ∧ Hid (∀ j, j < k → xs.getD j 0 ≠ x)) (fun i => n - (intOf i).toNat)
    case atStart => exact ⟨0, Nat.zero_le _, rfl, fun j hj => absurd hj (Nat.not_lt_zero _)⟩
    case round =>
      obtain ⟨k, hk, rfl, HQ⟩ := hrel
      by_cases hlt : k < n
      · have g1 : w.cell? ⟨b, off + k, none⟩ = some (.int .i64 (xs.getD k 0)) := HX.out k hlt
        generalize hxk : xs.getD k 0 = y at g1
        have HXY := Lib.hid hxk; clear hxk
        by_cases he : y = x
        · subst he
          go_wp2
          go_ret
          refine ⟨ret_bool ?_, rfl⟩
          have hm : y ∈ xs := by
            have hk' : k < xs.length := by rw [HN.out]; exact hlt
            rw [← HXY.out]; simp [List.getD, hk']
          simp [hm]
        · have heb : (y == x) = false := by simp [he]
          go_wp2
          go_round
          case rel =>
            refine ⟨k + 1, by omega, by go_num, fun j hj => ?_⟩
            by_cases e : j = k
            · rw [e, HXY.out]; exact he
            · exact HQ.out j (by omega)
          case measure => simp [intOf]; omega
      · have hkn : k = n := by omega
        have hall : x ∉ xs := fun hm => by
          obtain ⟨j, hj, e⟩ := List.getElem_of_mem hm
          exact HQ.out j (by rw [HN.out] at hj; omega) (by simpa [List.getD, hj] using e)
        have HA := Lib.hid hall; clear hall
        subst hkn
        go_wp2
        go_ret
        exact ⟨ret_bool (by simp [HA.out]), rfl⟩

end Go.Proofs.Ytmlgpnaikdpifaa
