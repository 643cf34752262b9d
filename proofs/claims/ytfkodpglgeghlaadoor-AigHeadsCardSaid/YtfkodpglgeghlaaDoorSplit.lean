/- Contracts of word.skip, word.Split and skolemref1.Split: both hand back the words ('wordsL'). Conditions: the slice reads as bytes, and is not too long. -/
import Derived.Test.YtfkodpglgeghlaaDoorSplitP
import Derived.Test.YtfkodpglgeghlaaDoorBits
import Derived.Laws.BytesArg
namespace Go.Proofs.YtfkodpglgeghlaaDoor
open Go.RowKit

theorem infoWd : (Tryd.prog.info? 91).map (fun i => (i.zero, i.size, i.bytes)) = some (some (.agg #[.string ⟨#[]⟩, .int .i64 0, .bool false]), 3, 32) := by kernel_rfl

/-- A word's cells. -/
def wcells (x : List Int × Nat × Bool) : List Value := [.string (strOfNums x.1), .int .i64 x.2.1, .bool x.2.2]

set_option maxHeartbeats 1000000 in
theorem skip_any (p : Int → Bool) (t : Int) (HIS : ∀ (c : Int) (W : World), 0 ≤ c → c ≤ 255 → Calls Tryd.prog 53 #[.int .u8 c, .int .i64 t] W fun e w' => e = .returned (.bool (p c)) ∧ W = w')
    (b off c : Nat) (xs : List Int) (k : Nat) (w : World) (hb : Bts xs) (hn : xs.length ≤ 4000000) (hk : k ≤ xs.length) (hx : ∀ i, i < xs.length → w.cell? ⟨b, off + i, none⟩ = some (.int .u8 (xs.getD i 0))) :
    Calls Tryd.prog 54 #[.slice (some ⟨b, off, none⟩) xs.length c, .int .i64 k, .int .i64 t] w fun e w' => (∃ j : Nat, e = .returned (.int .i64 j) ∧ k ≤ j ∧ j ≤ xs.length ∧ (∀ i, k ≤ i → i < j → p (xs.getD i 0) = false) ∧ (j = xs.length ∨ p (xs.getD j 0) = true)) ∧ w = w' := by
  have HX := Lib.hid hx; clear hx
  have HB := Lib.hid hb.at; clear hb
  generalize xs.length = n at *
  have HI := Lib.hid HIS; clear HIS
  go_enter Tryd.func54, Tryd.ntmps54
  go_wp2_with fail
  go_loop [1] (fun i => ∃ j : Nat, k ≤ j ∧ j ≤ n ∧ i = .int .i64 j ∧ Hid (∀ i, k ≤ i → i < j → p (xs.getD i 0) = false)) (fun i => n - (intOf i).toNat)
  case atStart => exact ⟨k, Nat.le_refl _, hk, rfl, fun j h1 h2 => by omega⟩
  case round =>
    obtain ⟨j, hkj, hj, rfl, HQ⟩ := hrel
    by_cases hlt : j < n
    · have g1 : w.cell? ⟨b, off + j, none⟩ = some (.int .u8 (xs.getD j 0)) := HX.out j hlt
      obtain ⟨hb1, hb2⟩ := HB.out j
      have HST := Lib.hid (fun (h : p (xs.getD j 0) = false) => show ∀ i, k ≤ i → i < j + 1 → p (xs.getD i 0) = false from fun i h1 h2 => by
        by_cases e : i = j
        · rw [e]; exact h
        · exact HQ.out i h1 (by omega))
      have HEN := Lib.hid (fun (h : p (xs.getD j 0) = true) => show j = n ∨ p (xs.getD j 0) = true from .inr h)
      have HC := Lib.hid (HI.out (xs.getD j 0) w hb1 hb2)
      generalize hy : xs.getD j 0 = y at *
      have HY := Lib.hid hy; clear hy
      cases hp : p y with
      | true =>
        have HEN' := Lib.hid (HEN.out hp)
        rw [hp] at HC
        clear HST HEN
        go_wp2_with (go_at_call 53; refine HC.out.mono ?_; rintro e w' ⟨rfl, rfl⟩)
        go_ret
        exact ⟨⟨j, rfl, hkj, hj, HQ.out, by rw [HY.out]; exact HEN'.out⟩, rfl⟩
      | false =>
        have HST' := Lib.hid (HST.out hp)
        rw [hp] at HC
        clear HST HEN
        go_wp2_with (go_at_call 53; refine HC.out.mono ?_; rintro e w' ⟨rfl, rfl⟩)
        go_round
        case rel => exact ⟨j + 1, by omega, by omega, by go_num, HST'.out⟩
        case measure => simp [intOf]; omega
    · have hjn : j = n := by omega
      go_wp2_with fail
      go_ret
      exact ⟨⟨n, rfl, hk, Nat.le_refl _, fun i h1 h2 => HQ.out i h1 (by omega), .inl rfl⟩, rfl⟩

def SplitPost (E : TypeId) (w : World) (ws : List (List Int × Nat × Bool)) (e : Ending) (w' : World) : Prop :=
  ∃ v, e = .returned v ∧ w'.ownsRow w.heap.size E 3 v ws.length (ws.flatMap wcells) ∧ Below w.heap.size w w'
theorem wcells_one (x : List Int × Nat × Bool) : ∀ u ∈ wcells x, u.oneCell' = true := by
  intro u hu
  simp [wcells] at hu
  rcases hu with rfl | rfl | rfl <;> rfl
theorem flat_snoc (ws : List (List Int × Nat × Bool)) (x : List Int × Nat × Bool) : (ws ++ [x]).flatMap wcells = ws.flatMap wcells ++ wcells x := by simp

set_option maxRecDepth 4000 in
set_option maxHeartbeats 4000000 in
theorem split_any (v : Value) (xs : List Int) (cm : Bool) (w : World) (hv : RowG (Value.int .u8) 0 w v xs) (hb : Bts xs) (hn : xs.length ≤ 4000000) :
    Calls Tryd.prog 39 #[v, .bool cm] w (SplitPost 91 w (wordsL cm xs)) := by
  obtain ⟨a, c, rfl, hxc, hcm, hx⟩ := hv
  have HX := Lib.hid hx; clear hx
  have HB := Lib.hid hb
  have hcm2 : c ≤ 9223372036854775807 := by unfold maxLen at hcm; omega
  clear hcm
  have HNN := Lib.hid hn
  generalize hN : xs.length = n at *
  have HN := Lib.hid hN; clear hN
  clear hb
  go_enter Tryd.func39, Tryd.ntmps39
  go_wp2_with fail
  go_loopw [5, 6, 7, 8] (fun v fv i _ wr => ∃ (k : Nat) (f : Bool) (ws : List (List Int × Nat × Bool)), k ≤ n ∧ i = .int .i64 k ∧ fv = .bool f ∧ wr.ownsRow w.heap.size 91 3 v ws.length (ws.flatMap wcells) ∧ Below w.heap.size w wr ∧ ws.length ≤ k ∧ Hid (ws ++ splitL cm k f false (xs.drop k) = wordsL cm xs)) (fun _ _ i _ _ => n - (intOf i).toNat)
  case atStart => exact ⟨0, true, [], Nat.zero_le _, rfl, rfl, World.ownsRow_nil _ _ _ _, Below.refl _ _, Nat.le_refl _, rfl⟩
  case round =>
    obtain ⟨k, f, ws, hk, rfl, rfl, hown, hbr, hwk, HQ⟩ := hrel
    by_cases hlt : k < n
    · obtain ⟨b, off, ha, hbl, hc⟩ := HX.out.resolve_left (by omega)
      subst ha
      have hcr : ∀ i, i < n → wr.cell? ⟨b, off + i, none⟩ = some (.int .u8 (xs.getD i 0)) := fun i hi => (hbr.cell (p := ⟨b, off + i, none⟩) hbl).trans (hc i hi)
      have g1 : wr.cell? ⟨b, off + k, none⟩ = some (.int .u8 (xs.getD k 0)) := hcr k hlt
      have HG := Lib.hid (step_gap cm xs k f (by rw [HN.out]; exact hlt))
      have HW := Lib.hid (fun j => step_word cm xs k j f false (by rw [HN.out]; exact hlt))
      have HNT := Lib.hid (fun j => step_note xs k j (by rw [HN.out]; exact hlt))
      obtain ⟨hb1, hb2⟩ := HB.out.at k
      have HSK := Lib.hid (fun (p : Int → Bool) (t : Int) HIS => skip_any p t HIS b off c xs k wr HB.out (by rw [HN.out]; exact HNN.out) (by rw [HN.out]; exact hk) (fun i hi => hcr i (by rw [HN.out] at hi; exact hi)))
      rw [HN.out] at HSK
      have HCV := Lib.hid (fun (j : Nat) (hj : j ≤ n - k) => run_convert_bytes_arg (P := Tryd.prog) wr 23 5 Tryd.underlying23 Tryd.underlying5 b (off + k) j (c - k) ((xs.drop k).take j) (by rw [List.length_take, List.length_drop, HN.out]; omega) (fun i hi => by rw [Nat.add_assoc, hcr (k + i) (by omega)]; simp [List.getD, hi]) 9 Tryd.underlying9)
      clear hcr hc
      have HGP := Lib.hid (fun W => is_gap (xs.getD k 0) W hb1 hb2)
      have HNL := Lib.hid (fun W => is_nl (xs.getD k 0) W hb1 hb2)
      generalize hy : xs.getD k 0 = y at *
      have HY := Lib.hid hy; clear hy
      cases hgap : gapB y with
      | true =>
        rw [hgap] at HGP
        have HQ' := Lib.hid (show ws ++ splitL cm (k + 1) (f || nlB y) false (xs.drop (k + 1)) = wordsL cm xs by rw [← HG.out hgap]; exact HQ.out)
        clear HG HW HNT HSK HCV HQ
        cases f with
        | true =>
          clear HNL
          go_wp2_with (go_at_call 53; refine (HGP.out _).mono ?_; rintro e w' ⟨rfl, rfl⟩)
          go_roundw
          case rel => exact ⟨k + 1, true, ws, by omega, by go_num, rfl, hown, hbr, by omega, HQ'.out⟩
          case measure => simp [intOf]; omega
        | false =>
          go_wp2_with (first
            | (go_at_call 53; refine (HGP.out _).mono ?_; rintro e w' ⟨rfl, rfl⟩)
            | (go_at_call 53; refine (HNL.out _).mono ?_; rintro e w' ⟨rfl, rfl⟩))
          go_roundw
          case rel => exact ⟨k + 1, nlB y, ws, by omega, by go_num, rfl, hown, hbr, by omega, HQ'.out⟩
          case measure => simp [intOf]; omega
      | false =>
        rw [hgap] at HGP
        have HGF := Lib.hid hgap
        clear HG HNL hgap
        have hck : ¬ c = k := by omega
        have hBB := hbr.size
        by_cases hnote : cm = true ∧ f = true ∧ y = 99
        · obtain ⟨rfl, rfl, rfl⟩ := hnote
          have HNT' := Lib.hid (fun j => HNT.out j rfl)
          clear HW HCV HNT
          go_wp2_with (first
            | (go_at_call 53; refine (HGP.out _).mono ?_; rintro e w' ⟨rfl, rfl⟩)
            | (go_at_call 54; refine (HSK.out nlB 2 is_nl).mono ?_; rintro e w' ⟨⟨j, rfl, hkj, hj, hin, hend⟩, rfl⟩))
          have hjk : k < j := by
            rcases Nat.lt_or_ge k j with h' | h'
            · exact h'
            · have e : j = k := by omega
              rw [e, HY.out] at hend
              rcases hend with h1 | h1
              · omega
              · cases h1
          go_roundw
          case rel => exact ⟨j, true, ws, hj, rfl, rfl, hown, hbr, by omega, by
            show ws ++ splitL true j true false (xs.drop j) = wordsL true xs
            rw [← HNT'.out j hkj (by rw [HN.out]; exact hj) hin (by rw [HN.out]; exact hend)]; exact HQ.out⟩
          case measure => simp [intOf]; omega
        · clear HNT
          have HCD := Lib.hid (show (cm && (f && y == 99)) = false by cases cm <;> cases f <;> simp_all)
          cases cm with
          | false =>
          have HC := Lib.hid HCD.out; clear HCD hnote
          go_wp2_with (first
            | (go_at_call 53; refine (HGP.out _).mono ?_; rintro e w' ⟨rfl, rfl⟩)
            | (go_at_call 54; refine (HSK.out gapB 1 is_gap).mono ?_; rintro e w' ⟨⟨j, rfl, hkj, hj, hin, hend⟩, rfl⟩; have hc2 := HCV.out (j - k) (by omega))
            | (at_builtin; refine wpList_appS 66 91 _ 3 32 Tryd.underlying66 infoWd rfl (by decide) (by decide) rfl _ _ rfl wr w.heap.size _ ws.length (ws.flatMap wcells) (wcells ((xs.drop k).take (j - k), k, _)) (wcells_one _) rfl hown hBB (by omega) _ rfl rfl rfl ?_; intro v' w2 hown2 hap))
          have hjk : k < j := by
            rcases Nat.lt_or_ge k j with h' | h'
            · exact h'
            · have e : j = k := by omega
              rw [e, HY.out, HGF.out] at hend
              rcases hend with h1 | h1
              · omega
              · cases h1
          go_roundw
          case rel => exact ⟨j, false, _, hj, rfl, rfl, by rw [flat_snoc, List.length_append]; exact hown2, hbr.trans hap.below, by simp; omega, by
            have h1 := HW.out j HGF.out hkj (by rw [HN.out]; exact hj) hin (by rw [HN.out]; exact hend)
            rw [Bool.false_or, HC.out] at h1
            have h2 := HQ.out
            rw [h1] at h2
            simpa [Hid] using h2⟩
          case measure => go_light; simp [intOf]; omega
          | true =>
          cases f with
          | false =>
          have HC := Lib.hid HCD.out; clear HCD hnote
          go_wp2_with (first
            | (go_at_call 53; refine (HGP.out _).mono ?_; rintro e w' ⟨rfl, rfl⟩)
            | (go_at_call 54; refine (HSK.out gapB 1 is_gap).mono ?_; rintro e w' ⟨⟨j, rfl, hkj, hj, hin, hend⟩, rfl⟩; have hc2 := HCV.out (j - k) (by omega))
            | (at_builtin; refine wpList_appS 66 91 _ 3 32 Tryd.underlying66 infoWd rfl (by decide) (by decide) rfl _ _ rfl wr w.heap.size _ ws.length (ws.flatMap wcells) (wcells ((xs.drop k).take (j - k), k, _)) (wcells_one _) rfl hown hBB (by omega) _ rfl rfl rfl ?_; intro v' w2 hown2 hap))
          have hjk : k < j := by
            rcases Nat.lt_or_ge k j with h' | h'
            · exact h'
            · have e : j = k := by omega
              rw [e, HY.out, HGF.out] at hend
              rcases hend with h1 | h1
              · omega
              · cases h1
          go_roundw
          case rel => exact ⟨j, false, _, hj, rfl, rfl, by rw [flat_snoc, List.length_append]; exact hown2, hbr.trans hap.below, by simp; omega, by
            have h1 := HW.out j HGF.out hkj (by rw [HN.out]; exact hj) hin (by rw [HN.out]; exact hend)
            rw [Bool.false_or, HC.out] at h1
            have h2 := HQ.out
            rw [h1] at h2
            simpa [Hid] using h2⟩
          case measure => go_light; simp [intOf]; omega
          | true =>
          have hyb : (y == 99) = false := by have := HCD.out; simpa using this
          have HC := Lib.hid HCD.out; clear HCD hnote
          go_wp2_with (first
            | (go_at_call 53; refine (HGP.out _).mono ?_; rintro e w' ⟨rfl, rfl⟩)
            | (go_at_call 54; refine (HSK.out gapB 1 is_gap).mono ?_; rintro e w' ⟨⟨j, rfl, hkj, hj, hin, hend⟩, rfl⟩; have hc2 := HCV.out (j - k) (by omega))
            | (at_builtin; refine wpList_appS 66 91 _ 3 32 Tryd.underlying66 infoWd rfl (by decide) (by decide) rfl _ _ rfl wr w.heap.size _ ws.length (ws.flatMap wcells) (wcells ((xs.drop k).take (j - k), k, _)) (wcells_one _) rfl hown hBB (by omega) _ rfl rfl rfl ?_; intro v' w2 hown2 hap))
          have hjk : k < j := by
            rcases Nat.lt_or_ge k j with h' | h'
            · exact h'
            · have e : j = k := by omega
              rw [e, HY.out, HGF.out] at hend
              rcases hend with h1 | h1
              · omega
              · cases h1
          go_roundw
          case rel => exact ⟨j, false, _, hj, rfl, rfl, by rw [flat_snoc, List.length_append]; exact hown2, hbr.trans hap.below, by simp; omega, by
            have h1 := HW.out j HGF.out hkj (by rw [HN.out]; exact hj) hin (by rw [HN.out]; exact hend)
            rw [Bool.false_or, HC.out] at h1
            have h2 := HQ.out
            rw [h1] at h2
            simpa [Hid] using h2⟩
          case measure => go_light; simp [intOf]; omega
    · have hkn : k = n := by omega
      have h2 := HQ.out
      rw [step_end cm xs k f false (by rw [HN.out]; omega), List.append_nil] at h2
      have H2 := Lib.hid h2; clear h2
      clear hlt hk HQ HX HB
      subst hkn
      go_wp2_with fail
      go_ret
      unfold SplitPost
      rw [← H2.out]
      exact ⟨_, rfl, hown, hbr⟩
end Go.Proofs.YtfkodpglgeghlaaDoor
