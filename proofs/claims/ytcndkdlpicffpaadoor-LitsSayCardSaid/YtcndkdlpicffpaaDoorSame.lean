/- Contracts of slices.Equal at []int, lits.Same and skolemref.Ints. Conditions: the slices read as the lists named, their ints lie strictly inside the 64 bits, the lists are short. -/
import Derived.Test.YtcndkdlpicffpaaDoorNorm
import Derived.Test.YtcndkdlpicffpaaDoorNormQ
namespace Go.Proofs.YtcndkdlpicffpaaDoor
open Go.RowKit Go.Sort

theorem equal_any (v u : Value) (xs ys : List Int) (w : World) (hv : Row w v xs) (hu : Row w u ys) :
    Calls Tryd.prog 35 #[v, u] w fun e w' => e = .returned (.bool (decide (xs = ys))) ∧ ∃ n, w' = w.drewN n := by
  obtain ⟨a, c, rfl, hxc, hcm, hx⟩ := hv
  obtain ⟨a', c', rfl, hyc, hcm', hy⟩ := hu
  unfold maxLen at hcm hcm'
  by_cases hl : xs.length = ys.length
  · by_cases h0 : xs.length = 0
    · have hxe : xs = [] := List.eq_nil_of_length_eq_zero h0
      have hye : ys = [] := List.eq_nil_of_length_eq_zero (by omega)
      subst hxe; subst hye
      exact (Tryd.slices_Equal_int_empty a a' c 0 c' w (by omega)).mono fun e w' ⟨he, hw⟩ => ⟨by rw [he]; simp, 0, hw⟩
    · obtain ⟨b, off, rfl, hb, hx⟩ := hx.resolve_left h0
      obtain ⟨b', off', rfl, hb', hy⟩ := hy.resolve_left (by omega)
      refine (Tryd.slices_Equal_int b off xs.length c b' off' ys.length c' xs ys w (Nat.le_refl _) (Nat.le_refl _) (by omega) (by omega) hx hy).mono fun e w' ⟨he, hw⟩ => ⟨?_, hw⟩
      rw [he, List.take_length, List.take_length]
      congr 2
      rw [Bool.eq_iff_iff]; simp
  · exact (Tryd.slices_Equal_int_lens a a' xs.length c ys.length c' w hl).mono fun e w' ⟨he, hw⟩ => ⟨by
      rw [he]
      have : ¬ xs = ys := fun e => hl (by rw [e])
      simp [this], 0, hw⟩

set_option maxHeartbeats 1000000 in
theorem same_any (v u : Value) (xs ys : List Int) (w : World) (hv : Row w v xs) (hu : Row w u ys) (hxs : InW xs) (hys : InW ys) (hn : xs.length < 1000000000) (hm : ys.length < 1000000000) :
    Calls Tryd.prog 21 #[v, u] w fun e w' => e = .returned (.bool (decide (normL xs = normL ys))) ∧ Below w.heap.size w w' := by
  have H1 := Lib.hid (norm_any v xs w hv hxs hn)
  have H2 := Lib.hid (fun W hW => norm_any u ys W (hu.keep hW) hys hm)
  have H3 := Lib.hid (fun (v' u' : Value) (W : World) => equal_any v' u' (normL xs) (normL ys) W)
  have HU := Lib.hid hu
  clear hv hu
  go_enter Tryd.func21, Tryd.ntmps21
  go_wp2_with fail
  refine H1.out.mono ?_
  rintro e w1 ⟨v1, rfl, hb1, hown1⟩
  go_wp2_with fail
  refine (H2.out _ hb1).mono ?_
  rintro e w2 ⟨v2, rfl, hb2, hown2⟩
  go_wp2_with fail
  refine (H3.out _ _ _ ((own_row hown1).keep hb2) (own_row hown2)).mono ?_
  rintro e w3 ⟨rfl, hw3⟩
  have hb3 := below_draws hw3
  clear hw3
  go_wp2_with fail
  go_ret
  exact ⟨rfl, hb1.trans ((hb2.mono hb1.size).trans (hb3.mono (by have := hb1.size; have := hb2.size; omega)))⟩

set_option maxHeartbeats 1000000 in
theorem ints_any (v : Value) (xs : List Int) (w : World) (hv : Row w v xs) (hn : xs.length < 1000000000) :
    Calls Tryd.prog 31 #[v] w fun e w' => ∃ v', e = .returned v' ∧ w'.ownsRow w.heap.size 3 1 v' xs.length (xs.map (Value.int .i64)) ∧ Below w.heap.size w w' := by
  obtain ⟨a, c, rfl, hxc, hcm, hx⟩ := hv
  unfold maxLen at hcm
  have HX := Lib.hid hx; clear hx
  generalize hN : xs.length = n at *
  have HN := Lib.hid hN; clear hN
  go_enter Tryd.func31, Tryd.ntmps31
  go_wp2_with (at_make; refine wpList_make0 rfl _ _ rfl _ n rfl rfl (by omega) ?_; intro w1 hown hb1 hs1)
  go_loopw [3, 4] (fun o i wr => ∃ k : Nat, k ≤ n ∧ i = .int .i64 k ∧ wr.ownsRow w.heap.size 3 1 o k ((xs.take k).map (Value.int .i64)) ∧ Below w.heap.size w wr ∧ w.heap.size < wr.heap.size) (fun _ i _ => n - (intOf i).toNat)
  case atStart => exact ⟨0, Nat.zero_le _, rfl, by simpa using hown, hb1, hs1⟩
  case round =>
    obtain ⟨k, hk, rfl, hownr, hbr, hsr⟩ := hrel
    clear hown hb1 hs1
    by_cases hlt : k < n
    · obtain ⟨b, off, ha, hb, hc⟩ := HX.out.resolve_left (by omega)
      subst ha
      have g1 : wr.cell? ⟨b, off + k, none⟩ = some (.int .i64 (xs.getD k 0)) := (hbr.cell (p := ⟨b, off + k, none⟩) hb).trans (hc k hlt)
      clear hc
      have HT := Lib.hid (take_snoc xs k (by rw [HN.out]; exact hlt))
      generalize xs.getD k 0 = y at *
      go_wp2_with (at_builtin; refine wpList_app1 rfl _ _ rfl wr w.heap.size _ _ _ y hownr (by omega) (by omega) rfl rfl ?_; intro v' w2 hown2 hb3)
      go_roundw
      case rel => exact ⟨k + 1, by omega, by go_num, by rw [HT.out]; exact hown2, hbr.trans hb3.below, Nat.lt_of_lt_of_le hsr hb3.below.size⟩
      case measure => simp [intOf]; omega
    · have hkn : k = n := by omega
      rw [hkn, List.take_of_length_le (by rw [HN.out]; exact Nat.le_refl _)] at hownr
      clear hkn
      go_wp2
      go_ret
      exact ⟨_, rfl, hownr, hbr⟩
end Go.Proofs.YtcndkdlpicffpaaDoor
