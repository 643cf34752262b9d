/- Contracts of skolemmake.Count and skolemmake.Right. Conditions: the slice reads as the lists named, each short. -/
import Derived.Test.YtbofgnihockpmaaCheckP
import Derived.Test.YtbofgnihockpmaaSmall
namespace Go.Proofs.Ytbofgnihockpmaa
open Go.RowKit

theorem sumTo_bd (xss : List (List Int)) (M : Nat) (h : ∀ xs ∈ xss, xs.length ≤ M) : ∀ k, k ≤ xss.length → sumTo xss k ≤ k * M
  | 0, _ => by simp [sumTo]
  | k + 1, hk => by
    rw [sumTo_succ _ _ (by omega)]
    have h1 := sumTo_bd xss M h k (by omega)
    have h2 : (xss.getD k []).length ≤ M := h _ (by simp [List.getD, show k < xss.length by omega])
    rw [Nat.add_mul]
    omega

set_option maxHeartbeats 1000000 in
theorem count_any (a : Option Addr) (cap : Nat) (xss : List (List Int)) (w : World) (hr : RowsAt w a cap xss) (hn : xss.length ≤ 60) (hlen : ∀ xs ∈ xss, xs.length ≤ 140737488355328) :
    Calls Try.prog 9 #[.slice a xss.length cap] w fun e w' => e = .returned (.int .i64 (sumTo xss xss.length)) ∧ w = w' := by
  obtain ⟨hc1, hc2, hr⟩ := hr
  unfold maxLen at hc2
  have HR := Lib.hid hr; clear hr
  have HBD := Lib.hid (sumTo_bd xss _ hlen)
  have HLEN := Lib.hid hlen; clear hlen
  generalize hN : xss.length = n at *
  have HN := Lib.hid hN; clear hN
  go_enter Try.func9, Try.ntmps9
  go_wp2_with fail
  go_loop [3, 4] (fun s i => ∃ k : Nat, k ≤ n ∧ i = .int .i64 k ∧ s = .int .i64 (sumTo xss k)) (fun _ i => n - (intOf i).toNat)
  case atStart => exact ⟨0, Nat.zero_le _, rfl, by simp [sumTo]⟩
  case round =>
    obtain ⟨k, hk, rfl, rfl⟩ := hrel
    by_cases hlt : k < n
    · obtain ⟨b, off, ha, hb, hc⟩ := HR.out.resolve_left (by omega)
      subst ha
      obtain ⟨v, g1, hv⟩ := hc k hlt
      clear hc
      have hkl : k < xss.length := by rw [HN.out]; exact hlt
      have HSU := Lib.hid (sumTo_succ xss k hkl)
      have hs1 := HBD.out k hk
      have hle : (xss.getD k []).length ≤ 140737488355328 := HLEN.out _ (by simp [List.getD, hkl])
      have hs2 : sumTo xss k ≤ 60 * 140737488355328 := Nat.le_trans hs1 (Nat.mul_le_mul_right _ (by omega))
      clear hkl hs1
      obtain ⟨av, cv, rfl, hrv⟩ := hv
      clear hrv
      generalize (xss.getD k []).length = m at *
      generalize hsk : sumTo xss k = sk at *
      go_wp2_with fail
      go_round
      case rel => exact ⟨k + 1, by omega, by go_num, by rw [HSU.out]; go_num⟩
      case measure => simp [intOf]; omega
    · have hkn : k = n := by omega
      clear hlt
      subst hkn
      go_wp2
      go_ret
      exact ⟨rfl, rfl⟩

/-- The literal is right for so many variables. -/
def rightFor (v l : Int) : Bool := !decide (l = 0) && (!decide (v < l) && !decide (l < -v))
theorem rightFor_iff (v l : Int) : rightFor v l = true ↔ l ≠ 0 ∧ l ≤ v ∧ -v ≤ l := by unfold rightFor; simp

set_option maxHeartbeats 1000000 in
theorem right_any (u : Value) (xs : List Int) (v : Int) (w : World) (hu : Row w u xs) (hv1 : 0 ≤ v) (hv2 : v ≤ 4000) :
    Calls Try.prog 12 #[u, .int .i64 v] w fun e w' => e = .returned (.bool (xs.all (rightFor v))) ∧ w = w' := by
  obtain ⟨a, c, rfl, hxc, hcm, hx⟩ := hu
  unfold maxLen at hcm
  have HX := Lib.hid hx; clear hx
  generalize hN : xs.length = n at *
  have HN := Lib.hid hN; clear hN
  go_enter Try.func12, Try.ntmps12
  go_wp2_with fail
  go_loop [5] (fun i => ∃ k : Nat, k ≤ n ∧ i = .int .i64 k ∧ Hid ((xs.take k).all (rightFor v) = true)) (fun i => n - (intOf i).toNat)
  case atStart => exact ⟨0, Nat.zero_le _, rfl, by simp [Hid]⟩
  case round =>
    obtain ⟨k, hk, rfl, HQ⟩ := hrel
    by_cases hlt : k < n
    · obtain ⟨b, off, ha, hb, hc⟩ := HX.out.resolve_left (by omega)
      subst ha
      have g1 : w.cell? ⟨b, off + k, none⟩ = some (.int .i64 (xs.getD k 0)) := hc k hlt
      clear hc
      have hkl : k < xs.length := by rw [HN.out]; exact hlt
      have HT := Lib.hid (show (xs.take (k + 1)).all (rightFor v) = ((xs.take k).all (rightFor v) && rightFor v (xs.getD k 0)) by rw [take_snoc xs k hkl, List.all_append]; simp)
      have HF := Lib.hid (show rightFor v (xs.getD k 0) = false → xs.all (rightFor v) = false from fun h => by
        rw [List.all_eq_false]
        exact ⟨xs[k], List.getElem_mem hkl, by simpa [List.getD, hkl] using h⟩)
      clear hkl
      generalize xs.getD k 0 = y at *
      rw [HQ.out] at HT
      by_cases hy0 : y = 0
      · subst hy0
        have HF' := Lib.hid (HF.out (by rfl))
        clear HF HT
        go_wp2
        go_ret
        exact ⟨ret_bool HF'.out.symm, rfl⟩
      · have hy0b : (y == 0) = false := by simp [hy0]
        by_cases hy1 : v < y
        · have HF' := Lib.hid (HF.out (by unfold rightFor; simp [hy1]))
          clear HF HT hy0
          go_wp2
          go_ret
          exact ⟨ret_bool HF'.out.symm, rfl⟩
        · by_cases hy2 : y < -v
          · have HF' := Lib.hid (HF.out (by unfold rightFor; simp [hy2]))
            clear HF HT hy0
            go_wp2
            go_ret
            exact ⟨ret_bool HF'.out.symm, rfl⟩
          · have HT' := Lib.hid (show (xs.take (k + 1)).all (rightFor v) = true by rw [HT.out]; unfold rightFor; simp; omega)
            clear HF HT hy0
            go_wp2
            go_round
            case rel => exact ⟨k + 1, by omega, by go_num, HT'.out⟩
            case measure => simp [intOf]; omega
    · have hkn : k = n := by omega
      have HA := Lib.hid (show xs.all (rightFor v) = true by have := HQ.out; rwa [hkn, List.take_of_length_le (by rw [HN.out]; exact Nat.le_refl _)] at this)
      clear hlt HQ
      go_wp2
      go_ret
      exact ⟨ret_bool HA.out.symm, rfl⟩
end Go.Proofs.Ytbofgnihockpmaa
