/- Contracts of the document's own small helpers: skolemref.Abs, skolemref1.Is, before, Rename. Conditions: the literals are 64-bit ints above the least, the lists are short. -/
import Derived.Test.YtcndkdlpicffpaaDoorRename
import Derived.Test.YtcndkdlpicffpaaDoorCheckP
namespace Go.Proofs.YtcndkdlpicffpaaDoor
open Go.RowKit

set_option maxHeartbeats 400000 in
theorem abs_any (l : Int) (w : World) (h1 : -9223372036854775807 ≤ l) (h2 : l ≤ 9223372036854775807) :
    Calls Tryd.prog 14 #[.int .i64 l] w fun e w' => e = .returned (.int .i64 (absI l)) ∧ w = w' := by
  unfold absI
  by_cases hlt : l < 0
  · go_enter Tryd.func14, Tryd.ntmps14
    go_wp2
    go_ret
    exact ⟨rfl, rfl⟩
  · go_enter Tryd.func14, Tryd.ntmps14
    go_wp2
    go_ret
    exact ⟨rfl, rfl⟩

set_option maxHeartbeats 400000 in
theorem refIs_any (l v : Int) (w : World) (h1 : -9223372036854775807 ≤ l) (h2 : l ≤ 9223372036854775807) (hv1 : -9223372036854775808 ≤ v) (hv2 : v ≤ 9223372036854775807) :
    Calls Tryd.prog 16 #[.int .i64 l, .int .i64 v] w fun e w' => e = .returned (.bool (isB v l)) ∧ w = w' := by
  have H := Lib.hid (show isB v l = decide (l ≠ 0 ∧ l ≤ v ∧ -v ≤ l) from by
    unfold isB absI; rw [Bool.eq_iff_iff]; simp; split <;> omega)
  generalize isB v l = r at *
  by_cases h0 : l = 0
  · subst h0
    go_enter Tryd.func16, Tryd.ntmps16
    go_wp2
    go_ret
    exact ⟨ret_bool (by rw [H.out]; simp), rfl⟩
  have hb0 : (l == 0) = false := by simp [h0]
  have hb0' : (l != 0) = true := by simp [h0]
  by_cases hle : l ≤ v
  · have hd : decide (l ≤ v) = true := by simp [hle]
    go_enter Tryd.func16, Tryd.ntmps16
    go_wp2
    go_ret
    exact ⟨ret_bool (by rw [H.out]; simp [h0, hle]), rfl⟩
  · have hd : decide (l ≤ v) = false := by simp; omega
    go_enter Tryd.func16, Tryd.ntmps16
    go_wp2
    go_ret
    exact ⟨ret_bool (by rw [H.out]; simp; omega), rfl⟩

set_option maxHeartbeats 400000 in
theorem before_any (l m : Int) (w : World) (h1 : -9223372036854775807 ≤ l) (h2 : l ≤ 9223372036854775807) (h3 : -9223372036854775807 ≤ m) (h4 : m ≤ 9223372036854775807) :
    Calls Tryd.prog 30 #[.int .i64 l, .int .i64 m] w fun e w' => e = .returned (.bool (decide (absI l < absI m ∨ (absI l = absI m ∧ l < m)))) ∧ w = w' := by
  have H1 := Lib.hid (fun W => abs_any l W h1 h2)
  have H2 := Lib.hid (fun W => abs_any m W h3 h4)
  generalize absI l = x at *
  generalize absI m = y at *
  by_cases hlt : x < y
  · have hd : decide (x < y) = true := by simp [hlt]
    go_enter Tryd.func30, Tryd.ntmps30
    go_wp2_with fail
    refine (H1.out _).mono ?_
    rintro e w' ⟨rfl, rfl⟩
    go_wp2_with fail
    refine (H2.out _).mono ?_
    rintro e w' ⟨rfl, rfl⟩
    go_wp2_with fail
    go_ret
    exact ⟨ret_bool (by simp [hlt]), rfl⟩
  have hd : decide (x < y) = false := by simp; omega
  by_cases he : x = y
  · have hb : (x == y) = true := by simp [he]
    go_enter Tryd.func30, Tryd.ntmps30
    go_wp2_with fail
    refine (H1.out _).mono ?_
    rintro e w' ⟨rfl, rfl⟩
    go_wp2_with fail
    refine (H2.out _).mono ?_
    rintro e w' ⟨rfl, rfl⟩
    go_wp2_with fail
    go_ret
    exact ⟨ret_bool (by simp [he]), rfl⟩
  · have hb : (x == y) = false := by simp [he]
    go_enter Tryd.func30, Tryd.ntmps30
    go_wp2_with fail
    refine (H1.out _).mono ?_
    rintro e w' ⟨rfl, rfl⟩
    go_wp2_with fail
    refine (H2.out _).mono ?_
    rintro e w' ⟨rfl, rfl⟩
    go_wp2_with fail
    go_ret
    exact ⟨ret_bool (by simp [he]; omega), rfl⟩

set_option maxHeartbeats 2000000 in
theorem refRename_any (v u : Value) (xs bs : List Int) (w : World) (hv : Row w v xs) (hu : Row w u bs) (hxs : InW xs) (hbs : InW bs) (hn : xs.length < 1000000000) :
    Calls Tryd.prog 12 #[v, u] w (RenPost w xs bs) := by
  obtain ⟨a, c, rfl, hxc, hcm, hx⟩ := hv
  obtain ⟨a', c', rfl, hyc, hcm', hy⟩ := hu
  unfold maxLen at hcm hcm'
  have HX := Lib.hid hx; clear hx
  have HY := Lib.hid hy; clear hy
  generalize hN : xs.length = n at *
  have HN := Lib.hid hN; clear hN
  have HRO : ∀ x, renOk bs x = (decide (x < bs.length ∧ -x < bs.length ∧ x ≠ 0) && !(bs.getD (absI x).toNat 0 == 0)) := fun x => by
    unfold renOk
    rw [← Bool.and_assoc]
    congr 1
    rw [Bool.eq_iff_iff]; unfold absI; simp; split <;> omega
  have HR := Lib.hid HRO; clear HRO
  go_enter Tryd.func12, Tryd.ntmps12
  go_wp2
  go_loopw [6, 7, 8, 9] (fun o i _ _ wr => ∃ k : Nat, k ≤ n ∧ i = .int .i64 k ∧ wr.ownsRow w.heap.size 3 1 o k (((xs.take k).map (ren1 bs)).map (Value.int .i64)) ∧ Below w.heap.size w wr ∧ Hid ((xs.take k).all (renOk bs) = true)) (fun _ i _ _ _ => n - (intOf i).toNat)
  case atStart => exact ⟨0, Nat.zero_le _, rfl, World.ownsRow_nil _ _ _ _, Below.refl _ _, by simp [Hid]⟩
  case round =>
    obtain ⟨k, hk, rfl, hownr, hbr, HQ⟩ := hrel
    by_cases hlt : k < n
    · obtain ⟨b, off, ha, hb, hc⟩ := HX.out.resolve_left (by omega)
      subst ha
      have g1 : wr.cell? ⟨b, off + k, none⟩ = some (.int .i64 (xs.getD k 0)) := (hbr.cell (p := ⟨b, off + k, none⟩) hb).trans (hc k hlt)
      clear hc
      have hbd := hxs.get k
      generalize hxk : xs.getD k 0 = x at *
      have HXK := Lib.hid hxk; clear hxk
      obtain ⟨hx1, hx2⟩ := hbd
      have HBAD : ¬ (x < bs.length ∧ -x < bs.length ∧ x ≠ 0) → Hid (xs.all (renOk bs) = false) := fun h => all_false (renOk bs) xs k (by rw [HN.out]; exact hlt) (by rw [HXK.out, HR.out, decide_eq_false h]; rfl)
      have HBD := Lib.hid HBAD; clear HBAD
      by_cases c1 : x < bs.length
      · have d1 : decide ((bs.length : Int) ≤ x) = false := by simp; omega
        by_cases c2 : -x < bs.length
        · have d2 : decide ((bs.length : Int) ≤ -x) = false := by simp; omega
          by_cases c3 : x = 0
          · have HF := HBD.out (fun h => h.2.2 c3)
            clear HBD
            have d3 : (x == -x) = true := by simp [c3]
            clear c3
            go_wp2
            go_ret2
            exact ⟨_, by rw [HF.out]; rfl, hbr, fun h => absurd h (by rw [HF.out]; simp), fun _ => rfl⟩
          · have d3 : (x == -x) = false := by simp; omega
            clear HBD
            have HV := Lib.hid (fun W => abs_any x W hx1 hx2)
            obtain ⟨m, hm'⟩ : ∃ m : Nat, absI x = (m : Int) := ⟨(absI x).toNat, by have := absI_pos x; omega⟩
            have hml : m < bs.length := by unfold absI at hm'; split at hm' <;> omega
            have HOK := Lib.hid (show renOk bs x = !(bs.getD m 0 == 0) by rw [HR.out, decide_eq_true ⟨c1, c2, c3⟩, hm', Int.toNat_natCast]; rfl)
            have HRN := Lib.hid (show ren1 bs x = if x < 0 then -(bs.getD m 0) else bs.getD m 0 by unfold ren1; rw [hm', Int.toNat_natCast])
            simp only [hm'] at HV
            have HM := Lib.hid hm'; clear hm'
            obtain ⟨b2, off2, ha2, hb2, hy⟩ := HY.out.resolve_left (by omega)
            subst ha2
            have g2 : wr.cell? ⟨b2, off2 + m, none⟩ = some (.int .i64 (bs.getD m 0)) := (hbr.cell (p := ⟨b2, off2 + m, none⟩) hb2).trans (hy m hml)
            clear hy
            have hyd := hbs.get m
            generalize hyk : bs.getD m 0 = y at *
            have HYK := Lib.hid hyk; clear hyk
            obtain ⟨hy1, hy2⟩ := hyd
            by_cases hy0 : y = 0
            · have HF := Lib.hid (all_false (renOk bs) xs k (by rw [HN.out]; exact hlt) (by rw [HXK.out, HOK.out, hy0]; rfl))
              subst hy0
              go_wp2_with (go_at_call 14; refine (HV.out _).mono ?_; rintro e w' ⟨rfl, rfl⟩)
              go_ret2
              exact ⟨_, by rw [HF.out]; rfl, hbr, fun h => absurd h (by rw [HF.out]; simp), fun _ => rfl⟩
            · have hy0b : (y == 0) = false := by simp [hy0]
              have HQ' := Lib.hid (show (xs.take (k + 1)).all (renOk bs) = true by rw [all_snoc _ _ _ (by rw [HN.out]; exact hlt), HQ.out, HXK.out, HOK.out, hy0b]; rfl)
              have HT := Lib.hid (show (xs.take (k + 1)).map (ren1 bs) = (xs.take k).map (ren1 bs) ++ [if x < 0 then -y else y] by rw [take_snoc xs k (by rw [HN.out]; exact hlt), List.map_append, HXK.out]; simp [HRN.out])
              by_cases hxn : x < 0
              · have d4 : decide (x < 0) = true := by simp [hxn]
                go_wp2_with (first | (go_at_call 14; refine (HV.out _).mono ?_; rintro e w' ⟨rfl, rfl⟩) | (at_builtin; refine wpList_app1 rfl _ _ rfl wr w.heap.size _ _ _ (-y) hownr (by have := hbr.size; omega) (by omega) rfl rfl ?_; intro v' w2 hown2 hb3))
                go_roundw
                case rel => exact ⟨k + 1, by omega, by go_num, by rw [HT.out, if_pos hxn]; exact hown2, hbr.trans hb3.below, HQ'.out⟩
                case measure => simp [intOf]; omega
              · have d4 : decide (x < 0) = false := by simp; omega
                go_wp2_with (first | (go_at_call 14; refine (HV.out _).mono ?_; rintro e w' ⟨rfl, rfl⟩) | (at_builtin; refine wpList_app1 rfl _ _ rfl wr w.heap.size _ _ _ y hownr (by have := hbr.size; omega) (by omega) rfl rfl ?_; intro v' w2 hown2 hb3))
                go_roundw
                case rel => exact ⟨k + 1, by omega, by go_num, by rw [HT.out, if_neg (by omega)]; exact hown2, hbr.trans hb3.below, HQ'.out⟩
                case measure => simp [intOf]; omega
        · have d2 : decide ((bs.length : Int) ≤ -x) = true := by simp; omega
          have HF := HBD.out (fun h => c2 h.2.1)
          clear HBD
          go_wp2
          go_ret2
          exact ⟨_, by rw [HF.out]; rfl, hbr, fun h => absurd h (by rw [HF.out]; simp), fun _ => rfl⟩
      · have d1 : decide ((bs.length : Int) ≤ x) = true := by simp; omega
        have HF := HBD.out (fun h => c1 h.1)
        clear HBD
        go_wp2
        go_ret2
        exact ⟨_, by rw [HF.out]; rfl, hbr, fun h => absurd h (by rw [HF.out]; simp), fun _ => rfl⟩
    · have hkn : k = n := by omega
      subst hkn
      have HA := Lib.hid (show xs.all (renOk bs) = true by have := HQ.out; rwa [List.take_of_length_le (by rw [HN.out]; exact Nat.le_refl _)] at this)
      go_wp2
      go_ret2
      exact ⟨_, by rw [HA.out]; rfl, hbr, fun _ => by rw [HN.out]; rwa [List.take_of_length_le (by rw [HN.out]; exact Nat.le_refl _)] at hownr, fun h => absurd h (by rw [HA.out]; simp)⟩
end Go.Proofs.YtcndkdlpicffpaaDoor
