/- The contract of lits.Rename: every literal by the new name of its variable, or false where one has none. Conditions: the literals and the names are 64-bit ints above the least, the list is short. -/
import Derived.Test.YtcndkdlpicffpaaDoorRead
import Derived.Test.YtcndkdlpicffpaaDoorOwn
namespace Go.Proofs.YtcndkdlpicffpaaDoor
open Go.RowKit

/-- All ints of the list lie strictly inside the 64 bits. -/
def InW (xs : List Int) : Prop := ∀ x ∈ xs, -9223372036854775807 ≤ x ∧ x ≤ 9223372036854775807
theorem InW.get {xs : List Int} (h : InW xs) (k : Nat) : -9223372036854775807 ≤ xs.getD k 0 ∧ xs.getD k 0 ≤ 9223372036854775807 := by
  by_cases hk : k < xs.length
  · have := h _ (List.getElem_mem hk); simpa [List.getD, hk] using this
  · simp [List.getD, show xs.length ≤ k by omega]

/-- What Rename leaves. -/
def RenPost (w : World) (xs bs : List Int) (e : Ending) (w' : World) : Prop :=
  ∃ v', e = .returned (.tuple #[v', .bool (xs.all (renOk bs))]) ∧ Below w.heap.size w w' ∧
    (xs.all (renOk bs) = true → w'.ownsRow w.heap.size 3 1 v' xs.length ((xs.map (ren1 bs)).map (Value.int .i64))) ∧ (xs.all (renOk bs) = false → v' = .slice none 0 0)

theorem all_snoc (f : Int → Bool) (xs : List Int) (k : Nat) (h : k < xs.length) : (xs.take (k + 1)).all f = ((xs.take k).all f && f (xs.getD k 0)) := by
  rw [take_snoc xs k h, List.all_append]; simp
theorem all_false (f : Int → Bool) (xs : List Int) (k : Nat) (h : k < xs.length) (hf : f (xs.getD k 0) = false) : xs.all f = false := by
  rw [List.all_eq_false]
  exact ⟨xs[k], List.getElem_mem h, by simpa [List.getD, h] using hf⟩

set_option maxHeartbeats 2000000 in
theorem rename_any (v u : Value) (xs bs : List Int) (w : World) (hv : Row w v xs) (hu : Row w u bs) (hxs : InW xs) (hbs : InW bs) (hn : xs.length < 1000000000) (hm : bs.length < 1000000000) :
    Calls Tryd.prog 11 #[v, u] w (RenPost w xs bs) := by
  obtain ⟨a, c, rfl, hxc, hcm, hx⟩ := hv
  obtain ⟨a', c', rfl, hyc, hcm', hy⟩ := hu
  unfold maxLen at hcm hcm'
  by_cases h0 : xs.length = 0
  · have hxe : xs = [] := List.eq_nil_of_length_eq_zero h0
    subst hxe
    clear hx h0 hy
    go_enter Tryd.func11, Tryd.ntmps11
    go_wp2_with (at_make; refine wpList_make0 rfl _ _ rfl _ 0 rfl rfl (by omega) ?_; intro w1 hown hb hs)
    refine wp_loop_rounds 1 ?_
    rw [rounds_succ]
    go_wp2
    go_ret2
    exact ⟨_, rfl, hb, fun _ => by simpa using hown, fun h => by simp at h⟩
  · obtain ⟨b, off, rfl, hb, hx⟩ := hx.resolve_left h0
    have HX := Lib.hid hx; clear hx
    have HY := Lib.hid hy; clear hy
    generalize hN : xs.length = n at *
    have HN := Lib.hid hN; clear hN
    go_enter Tryd.func11, Tryd.ntmps11
    go_wp2_with (at_make; refine wpList_make0 rfl _ _ rfl _ n rfl rfl (by omega) ?_; intro w1 hown hb1 hs1)
    go_loopw [6, 8, 9, 15] (fun o _ _ i wr => ∃ k : Nat, k ≤ n ∧ i = .int .i64 k ∧ wr.ownsRow w.heap.size 3 1 o k (((xs.take k).map (ren1 bs)).map (Value.int .i64)) ∧ Below w.heap.size w wr ∧ w.heap.size < wr.heap.size ∧ Hid ((xs.take k).all (renOk bs) = true)) (fun _ _ _ i _ => n - (intOf i).toNat)
    case atStart => exact ⟨0, Nat.zero_le _, rfl, by simpa using hown, hb1, hs1, by simp [Hid]⟩
    case round =>
      obtain ⟨k, hk, rfl, hownr, hbr, hsr, HQ⟩ := hrel
      clear hown hb1 hs1
      by_cases hlt : k < n
      · have g1 : wr.cell? ⟨b, off + k, none⟩ = some (.int .i64 (xs.getD k 0)) := (hbr.cell (p := ⟨b, off + k, none⟩) hb).trans (HX.out k hlt)
        have hbd := hxs.get k
        generalize hxk : xs.getD k 0 = x at *
        have HXK := Lib.hid hxk; clear hxk
        obtain ⟨hx1, hx2⟩ := hbd
        obtain ⟨m, hm'⟩ : ∃ m : Nat, absI x = (m : Int) := ⟨(absI x).toNat, by have := absI_pos x; omega⟩
        have HV := fun W => var_any x W hx1 hx2
        have HI := fun W => is_any x ((bs.length : Int) - 1) W hx1 hx2
        rw [hm'] at HI
        simp only [hm'] at HV
        have HV' := Lib.hid HV; clear HV
        have HM := Lib.hid hm'; clear hm'
        by_cases hi : 1 ≤ m ∧ m < bs.length
        · obtain ⟨hi1, hi2⟩ := hi
          have hib : (decide (1 ≤ (m : Int)) && decide ((m : Int) ≤ (bs.length : Int) - 1)) = true := by simp; omega
          rw [hib] at HI
          have HI' := Lib.hid HI; clear HI
          have HIB := Lib.hid hib; clear hib
          obtain ⟨b2, off2, rfl, hb2, hy⟩ := HY.out.resolve_left (by omega)
          have g2 : wr.cell? ⟨b2, off2 + m, none⟩ = some (.int .i64 (bs.getD m 0)) := (hbr.cell (p := ⟨b2, off2 + m, none⟩) hb2).trans (hy m hi2)
          clear hy
          have hyd := hbs.get m
          generalize hyk : bs.getD m 0 = y at *
          have HYK := Lib.hid hyk; clear hyk
          obtain ⟨hy1, hy2⟩ := hyd
          by_cases hy0 : y = 0
          · have hib2 : renOk bs x = false := by unfold renOk; rw [HM.out, ← Bool.and_assoc, HIB.out, Int.toNat_natCast, HYK.out, hy0]; simp
            have HF := Lib.hid (all_false (renOk bs) xs k (by rw [HN.out]; exact hlt) (by rw [HXK.out]; exact hib2))
            clear hib2
            subst hy0
            go_wp2_with (first | (go_at_call 13; refine (HV'.out _).mono ?_; rintro e w' ⟨rfl, rfl⟩) | (go_at_call 15; refine (HI'.out _).mono ?_; rintro e w' ⟨rfl, rfl⟩))
            go_ret2
            exact ⟨_, by rw [HF.out]; rfl, hbr, fun h => absurd h (by rw [HF.out]; simp), fun _ => rfl⟩
          · have hib2 : renOk bs x = true := by unfold renOk; rw [HM.out, ← Bool.and_assoc, HIB.out, Int.toNat_natCast, HYK.out]; simp [hy0]
            have hr : ren1 bs x = if x < 0 then -y else y := by unfold ren1; rw [HM.out, Int.toNat_natCast, HYK.out]
            have HQ' := Lib.hid (show (xs.take (k + 1)).all (renOk bs) = true by rw [all_snoc _ _ _ (by rw [HN.out]; exact hlt), HQ.out, HXK.out, hib2]; rfl)
            have HT := Lib.hid (show (xs.take (k + 1)).map (ren1 bs) = (xs.take k).map (ren1 bs) ++ [if x < 0 then -y else y] by rw [take_snoc xs k (by rw [HN.out]; exact hlt), List.map_append, HXK.out]; simp [hr])
            clear hib2 hr
            have hy0b : (y == 0) = false := by simp [hy0]
            by_cases hxn : x < 0
            · go_wp2_with (first | (go_at_call 13; refine (HV'.out _).mono ?_; rintro e w' ⟨rfl, rfl⟩) | (go_at_call 15; refine (HI'.out _).mono ?_; rintro e w' ⟨rfl, rfl⟩) | (at_builtin; refine wpList_app1 rfl _ _ rfl wr w.heap.size _ _ _ (-y) hownr (by omega) (by omega) rfl rfl ?_; intro v' w2 hown2 hb3))
              go_roundw
              case rel => exact ⟨k + 1, by omega, by go_num, by rw [HT.out, if_pos hxn]; exact hown2, hbr.trans hb3.below, Nat.lt_of_lt_of_le hsr hb3.below.size, HQ'.out⟩
              case measure => simp [intOf]; omega
            · go_wp2_with (first | (go_at_call 13; refine (HV'.out _).mono ?_; rintro e w' ⟨rfl, rfl⟩) | (go_at_call 15; refine (HI'.out _).mono ?_; rintro e w' ⟨rfl, rfl⟩) | (at_builtin; refine wpList_app1 rfl _ _ rfl wr w.heap.size _ _ _ y hownr (by omega) (by omega) rfl rfl ?_; intro v' w2 hown2 hb3))
              go_roundw
              case rel => exact ⟨k + 1, by omega, by go_num, by rw [HT.out, if_neg (by omega)]; exact hown2, hbr.trans hb3.below, Nat.lt_of_lt_of_le hsr hb3.below.size, HQ'.out⟩
              case measure => simp [intOf]; omega
        · have hib : (decide (1 ≤ (m : Int)) && decide ((m : Int) ≤ (bs.length : Int) - 1)) = false := by simp; omega
          have hib2 : renOk bs x = false := by unfold renOk; rw [HM.out, ← Bool.and_assoc, hib]; simp
          rw [hib] at HI
          have HI' := Lib.hid HI; clear HI
          have HF := Lib.hid (all_false (renOk bs) xs k (by rw [HN.out]; exact hlt) (by rw [HXK.out]; exact hib2))
          clear hib hib2
          go_wp2_with (first | (go_at_call 13; refine (HV'.out _).mono ?_; rintro e w' ⟨rfl, rfl⟩) | (go_at_call 15; refine (HI'.out _).mono ?_; rintro e w' ⟨rfl, rfl⟩))
          go_ret2
          exact ⟨_, by rw [HF.out]; rfl, hbr, fun h => absurd h (by rw [HF.out]; simp), fun _ => rfl⟩
      · have hkn : k = n := by omega
        subst hkn
        have HA := Lib.hid (show xs.all (renOk bs) = true by have := HQ.out; rwa [List.take_of_length_le (by rw [HN.out]; exact Nat.le_refl _)] at this)
        go_wp2
        go_ret2
        exact ⟨_, by rw [HA.out]; rfl, hbr, fun _ => by rw [HN.out]; rwa [List.take_of_length_le (by rw [HN.out]; exact Nat.le_refl _)] at hownr, fun h => absurd h (by rw [HA.out]; simp)⟩

theorem rename_ok (v u : Value) (xs bs : List Int) (w : World) (hv : Row w v xs) (hu : Row w u bs) (hxs : InW xs) (hbs : InW bs) (hn : xs.length < 1000000000) (hm : bs.length < 1000000000) (hall : xs.all (renOk bs) = true) :
    Calls Tryd.prog 11 #[v, u] w fun e w' => ∃ v', e = .returned (.tuple #[v', .bool true]) ∧ w'.ownsRow w.heap.size 3 1 v' xs.length ((xs.map (ren1 bs)).map (Value.int .i64)) ∧ Below w.heap.size w w' :=
  (rename_any v u xs bs w hv hu hxs hbs hn hm).mono fun e w' ⟨v', he, hb, h1, _⟩ => ⟨v', by rw [he, hall], h1 hall, hb⟩
theorem rename_bad (v u : Value) (xs bs : List Int) (w : World) (hv : Row w v xs) (hu : Row w u bs) (hxs : InW xs) (hbs : InW bs) (hn : xs.length < 1000000000) (hm : bs.length < 1000000000) (hall : xs.all (renOk bs) = false) :
    Calls Tryd.prog 11 #[v, u] w fun e w' => e = .returned (.tuple #[.slice none 0 0, .bool false]) ∧ Below w.heap.size w w' :=
  (rename_any v u xs bs w hv hu hxs hbs hn hm).mono fun e w' ⟨v', he, hb, _, h2⟩ => ⟨by rw [he, hall, h2 hall], hb⟩
end Go.Proofs.YtcndkdlpicffpaaDoor
