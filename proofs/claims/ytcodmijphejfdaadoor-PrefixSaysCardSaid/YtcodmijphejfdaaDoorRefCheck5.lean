/- Contracts of skolemmake.NearAll, skolemmake.Count and of the document's own skolemref1.CheckCNF. Conditions: the clauses read as lists of 64-bit ints, few and short ones. -/
import Derived.Test.YtcodmijphejfdaaDoorRef
import Derived.Test.YtcodmijphejfdaaDoorSee
import Derived.Test.YtcodmijphejfdaaDoorNear
namespace Go.Proofs.YtcodmijphejfdaaDoor
open Go.RowKit

set_option maxHeartbeats 1000000 in
theorem nearAll_any (a : Option Addr) (cap : Nat) (xss : List (List Int)) (w : World) (hr : RowsAt w a cap xss) :
    Calls Tryd.prog 22 #[.slice a xss.length cap] w fun e w' => e = .returned (.bool (xss.all fun xs => xs.all nearB)) ∧ w = w' := by
  obtain ⟨hc1, hc2, hr⟩ := hr
  unfold maxLen at hc2
  have HR := Lib.hid hr; clear hr
  generalize hN : xss.length = n at *
  have HN := Lib.hid hN; clear hN
  go_enter Tryd.func22, Tryd.ntmps22
  go_wp2_with fail
  go_loop [3] (fun i => ∃ k : Nat, k ≤ n ∧ i = .int .i64 k ∧ Hid (((xss.take k).all fun xs => xs.all nearB) = true)) (fun i => n - (intOf i).toNat)
  case atStart => exact ⟨0, Nat.zero_le _, rfl, by simp [Hid]⟩
  case round =>
    obtain ⟨k, hk, rfl, HQ⟩ := hrel
    by_cases hlt : k < n
    · obtain ⟨b, off, ha, hb, hc⟩ := HR.out.resolve_left (by omega)
      subst ha
      obtain ⟨v, g1, hv⟩ := hc k hlt
      clear hc
      have hkl : k < xss.length := by rw [HN.out]; exact hlt
      have hgk : xss.getD k [] = xss[k] := by simp [List.getD, hkl]
      have HT := Lib.hid (show ((xss.take (k + 1)).all fun xs => xs.all nearB) = (((xss.take k).all fun xs => xs.all nearB) && (xss.getD k []).all nearB) by
        rw [List.take_succ_eq_append_getElem hkl, List.all_append, hgk]; simp)
      have HF := Lib.hid (show (xss.getD k []).all nearB = false → (xss.all fun xs => xs.all nearB) = false from fun h => by
        rw [List.all_eq_false]
        exact ⟨xss[k], List.getElem_mem hkl, by rw [← hgk, h]; simp⟩)
      have HNE := Lib.hid (fun W (h : Row W v (xss.getD k [])) => near_any v _ W h)
      clear hgk hkl
      generalize xss.getD k [] = ys at *
      obtain ⟨av, cv, rfl, hrv⟩ := hv
      have HRV := Lib.hid (show Row w (.slice av ys.length cv) ys from ⟨_, _, rfl, hrv⟩)
      clear hrv
      cases hy : ys.all nearB with
      | false =>
        rw [hy] at HNE
        have HF' := Lib.hid (HF.out hy)
        clear HF hy
        go_wp2_with (go_at_call 24; refine (HNE.out _ HRV.out).mono ?_; rintro e w' ⟨rfl, rfl⟩)
        go_ret
        exact ⟨by rw [HF'.out]; rfl, rfl⟩
      | true =>
        rw [hy] at HNE
        have HT' := Lib.hid (show ((xss.take (k + 1)).all fun xs => xs.all nearB) = true by rw [HT.out, HQ.out, hy]; rfl)
        clear HF hy HT
        go_wp2_with (go_at_call 24; refine (HNE.out _ HRV.out).mono ?_; rintro e w' ⟨rfl, rfl⟩)
        go_round
        case rel => exact ⟨k + 1, by omega, by go_num, HT'.out⟩
        case measure => simp [intOf]; omega
    · have hkn : k = n := by omega
      have HA := Lib.hid (show (xss.all fun xs => xs.all nearB) = true by have := HQ.out; rwa [hkn, List.take_of_length_le (by rw [HN.out]; exact Nat.le_refl _)] at this)
      clear hlt
      go_wp2
      go_ret
      exact ⟨by rw [HA.out]; rfl, rfl⟩

theorem sumTo_bd (xss : List (List Int)) (M : Nat) (h : ∀ xs ∈ xss, xs.length ≤ M) : ∀ k, k ≤ xss.length → sumTo xss k ≤ k * M
  | 0, _ => by simp [sumTo]
  | k + 1, hk => by
    rw [sumTo_succ _ _ (by omega)]
    have h1 := sumTo_bd xss M h k (by omega)
    have h2 : (xss.getD k []).length ≤ M := h _ (by simp [List.getD, show k < xss.length by omega])
    rw [Nat.add_mul]
    omega

set_option maxHeartbeats 1000000 in
theorem count_any (a : Option Addr) (cap : Nat) (xss : List (List Int)) (w : World) (hr : RowsAt w a cap xss) (hn : xss.length ≤ 60) (hlen : ∀ xs ∈ xss, xs.length ≤ 140737488355328) :
    Calls Tryd.prog 23 #[.slice a xss.length cap] w fun e w' => e = .returned (.int .i64 (sumTo xss xss.length)) ∧ w = w' := by
  obtain ⟨hc1, hc2, hr⟩ := hr
  unfold maxLen at hc2
  have HR := Lib.hid hr; clear hr
  have HBD := Lib.hid (sumTo_bd xss _ hlen)
  have HLEN := Lib.hid hlen; clear hlen
  generalize hN : xss.length = n at *
  have HN := Lib.hid hN; clear hN
  go_enter Tryd.func23, Tryd.ntmps23
  go_wp2_with fail
  go_loop [3, 4] (fun s i => ∃ k : Nat, k ≤ n ∧ i = .int .i64 k ∧ s = .int .i64 (sumTo xss k)) (fun _ i => n - (intOf i).toNat)
  case atStart => exact ⟨0, Nat.zero_le _, rfl, by simp [sumTo]⟩
  case round =>
    obtain ⟨k, hk, rfl, rfl⟩ := hrel
    by_cases hlt : k < n
    · obtain ⟨b, off, ha, hb, hc⟩ := HR.out.resolve_left (by omega)
      subst ha
      obtain ⟨v, g1, hv⟩ := hc k hlt
      clear hc
      have hkl : k < xss.length := by rw [HN.out]; exact hlt
      have HSU := Lib.hid (sumTo_succ xss k hkl)
      have hs1 := HBD.out k hk
      have hle : (xss.getD k []).length ≤ 140737488355328 := HLEN.out _ (by simp [List.getD, hkl])
      have hs2 : sumTo xss k ≤ 60 * 140737488355328 := Nat.le_trans hs1 (Nat.mul_le_mul_right _ (by omega))
      clear hkl hs1
      obtain ⟨av, cv, rfl, hrv⟩ := hv
      clear hrv
      generalize (xss.getD k []).length = m at *
      generalize hsk : sumTo xss k = sk at *
      go_wp2_with fail
      go_round
      case rel => exact ⟨k + 1, by omega, by go_num, by rw [HSU.out]; go_num⟩
      case measure => simp [intOf]; omega
    · have hkn : k = n := by omega
      clear hlt
      subst hkn
      go_wp2
      go_ret
      exact ⟨rfl, rfl⟩

/-- What the document's Check leaves. -/
def RefCheckPost (w : World) (vars : Int) (xss : List (List Int)) (e : Ending) (w' : World) : Prop :=
  ∃ c p k, e = .returned (faultV c p k) ∧ CheckF vars xss c p k ∧ Below w.heap.size w w'

set_option maxHeartbeats 4000000 in
theorem refCheck_any (vars : Int) (a : Option Addr) (cap : Nat) (xss : List (List Int)) (w : World) (hv1 : -9223372036854775808 ≤ vars) (hv2 : vars ≤ 9223372036854775807) (hr : RowsAt w a cap xss)
    (hint : ∀ xs ∈ xss, ∀ l ∈ xs, -9223372036854775807 ≤ l ∧ l ≤ 9223372036854775807) (hn : xss.length ≤ 60) (hlen : ∀ xs ∈ xss, xs.length ≤ 1000000) :
    Calls Tryd.prog 49 #[.agg #[.int .i64 vars, .slice a xss.length cap]] w (RefCheckPost w vars xss) := by
  obtain ⟨hc1, hc2, hr⟩ := hr
  unfold maxLen at hc2
  have HBD := Lib.hid (sumTo_bd xss _ hlen)
  have HR := Lib.hid hr; clear hr
  have HI := Lib.hid hint; clear hint
  have HLEN := Lib.hid hlen; clear hlen
  have HBA := Lib.hid (fun W => bare_any 102 W)
  have HPL := Lib.hid (fun k W => placed_any 104 k W (by omega))
  have HNO := Lib.hid none_any
  have hbw : Below w.heap.size w ((w.alloc (.cells #[.int .i64 vars, .slice a xss.length cap] 25)).alloc (.cells #[.int .i64 0, .bool false, .int .i64 0] 38)) := ((Below.refl _ w).alloc (Nat.le_refl _) _).alloc (by simp) _
  generalize hN : xss.length = n at *
  have HN := Lib.hid hN; clear hN
  go_enter Tryd.func49, Tryd.ntmps49
  go_wp2_with fail
  go_loop [3, 4] (fun s i => ∃ k : Nat, k ≤ n ∧ i = .int .i64 k ∧ s = .int .i64 (sumTo xss k)) (fun _ i => n - (intOf i).toNat)
  case atStart => exact ⟨0, Nat.zero_le _, rfl, by simp [sumTo]⟩
  case round =>
    obtain ⟨k, hk, rfl, rfl⟩ := hrel
    by_cases hlt : k < n
    · obtain ⟨b, off, ha, hb, hc⟩ := HR.out.resolve_left (by omega)
      subst ha
      obtain ⟨v, g1, hv⟩ := hc k hlt
      clear hc
      have hkl : k < xss.length := by rw [HN.out]; exact hlt
      have HSU := Lib.hid (sumTo_succ xss k hkl)
      have hs1 := HBD.out k hk
      have hle : (xss.getD k []).length ≤ 1000000 := HLEN.out _ (by simp [List.getD, hkl])
      have hs2 : sumTo xss k ≤ 60 * 1000000 := Nat.le_trans hs1 (Nat.mul_le_mul_right _ (by omega))
      clear hkl hs1
      obtain ⟨av, cv, rfl, hrv⟩ := hv
      clear hrv
      generalize (xss.getD k []).length = m at *
      generalize hsk : sumTo xss k = sk at *
      go_wp2_with fail
      go_round
      case rel => exact ⟨k + 1, by omega, by go_num, by rw [HSU.out]; go_num⟩
      case measure => simp [intOf]; omega
    · have hkn : k = n := by omega
      clear hlt
      subst hkn
      have hs2 : sumTo xss k ≤ 60 * 1000000 := Nat.le_trans (HBD.out k (Nat.le_refl _)) (Nat.mul_le_mul_right _ (by omega))
      generalize hsk : sumTo xss k = sk at *
      have HSK := Lib.hid hsk; clear hsk
      have HTM := Lib.hid (show tooMuch vars xss ↔ (vars < 0 ∨ 4000 < vars ∨ 20000 < k ∨ 80000 < sk) by unfold tooMuch; rw [HN.out, HSK.out])
      clear HBD
      have hd3 : decide (20000 < (k : Int)) = false := by simp; omega
      by_cases hvn : vars < 0
      · have HT := Lib.hid (HTM.out.2 (.inl hvn))
        go_wp2_with (go_at_call 29; refine (HBA.out _).mono ?_; rintro e w2 ⟨rfl, hb2⟩; obtain ⟨hc, hf⟩ := bcell hb2; unfold faultV)
        exact bodyPost_ret (v := .agg #[.int .i64 102, .bool false, .int .i64 0]) (by simp [results, Tryd.results49, go_sem, hc]) rfl ⟨102, false, 0, rfl, .inl ⟨HT.out, rfl, rfl, rfl⟩, (((hbw.trans (hb2.mono hbw.size)).setCell (by simp) _).setCell (by simp) _).setCell (by simp) _⟩
      have hd1 : decide (vars < 0) = false := by simpa using hvn
      by_cases hvp : 4000 < vars
      · have HT := Lib.hid (HTM.out.2 (.inr (.inl hvp)))
        have hd2 : decide (4000 < vars) = true := by simp [hvp]
        go_wp2_with (go_at_call 29; refine (HBA.out _).mono ?_; rintro e w2 ⟨rfl, hb2⟩; obtain ⟨hc, hf⟩ := bcell hb2; unfold faultV)
        exact bodyPost_ret (v := .agg #[.int .i64 102, .bool false, .int .i64 0]) (by simp [results, Tryd.results49, go_sem, hc]) rfl ⟨102, false, 0, rfl, .inl ⟨HT.out, rfl, rfl, rfl⟩, (((hbw.trans (hb2.mono hbw.size)).setCell (by simp) _).setCell (by simp) _).setCell (by simp) _⟩
      have hd2 : decide (4000 < vars) = false := by simpa using hvp
      by_cases hsp : 80000 < sk
      · have HT := Lib.hid (HTM.out.2 (.inr (.inr (.inr hsp))))
        have hd4 : decide (80000 < (sk : Int)) = true := by simp; omega
        go_wp2_with (go_at_call 29; refine (HBA.out _).mono ?_; rintro e w2 ⟨rfl, hb2⟩; obtain ⟨hc, hf⟩ := bcell hb2; unfold faultV)
        exact bodyPost_ret (v := .agg #[.int .i64 102, .bool false, .int .i64 0]) (by simp [results, Tryd.results49, go_sem, hc]) rfl ⟨102, false, 0, rfl, .inl ⟨HT.out, rfl, rfl, rfl⟩, (((hbw.trans (hb2.mono hbw.size)).setCell (by simp) _).setCell (by simp) _).setCell (by simp) _⟩
      have hd4 : decide (80000 < (sk : Int)) = false := by simp; omega
      have HNT := Lib.hid (show ¬ tooMuch vars xss from fun h => by have := HTM.out.1 h; omega)
      go_wp2_with fail
      clear hd1 hd2 hd4 hd3 hvn hvp hsp hs2 HTM
      go_loopw [5, 6] (fun i _ wr => ∃ q t : Nat, q ≤ k ∧ i = .int .i64 q ∧ wr = ((w.alloc (.cells #[.int .i64 vars, .slice a k cap] 25)).alloc (.cells #[.int .i64 0, .bool false, .int .i64 0] 38)).drewN t ∧ Hid (∀ j, j < q → ∀ l ∈ xss.getD j [], isB vars l = true)) (fun i _ _ => k - (intOf i).toNat)
      case atStart => exact ⟨0, 0, Nat.zero_le _, rfl, rfl, fun j hj => absurd hj (Nat.not_lt_zero _)⟩
      case round =>
        obtain ⟨q, t, hq, rfl, rfl, HQ⟩ := hrel
        by_cases hlt : q < k
        · obtain ⟨b, off, ha, hb, hc⟩ := HR.out.resolve_left (by omega)
          subst ha
          obtain ⟨v, g1, hv⟩ := hc q hlt
          clear hc
          have hkl : q < xss.length := by rw [HN.out]; exact hlt
          have hmem : xss.getD q [] ∈ xss := by simp [List.getD, hkl]
          have hle : (xss.getD q []).length ≤ 1000000 := HLEN.out _ hmem
          have HIK := Lib.hid (HI.out _ hmem)
          clear hmem
          generalize hys : xss.getD q [] = ys at *
          have HYS := Lib.hid hys; clear hys
          obtain ⟨av, cv, rfl, hrv1, hrv2, hrv⟩ := hv
          have HRV := Lib.hid hrv; clear hrv
          unfold maxLen at hrv2
          generalize hm : ys.length = m at *
          have HM := Lib.hid hm; clear hm
          have HKL := Lib.hid hkl; clear hkl
          go_wp2_with fail
          go_loopw [6] (fun i wr => ∃ j t : Nat, j ≤ m ∧ i = .int .i64 j ∧ wr = ((w.alloc (.cells #[.int .i64 vars, .slice (some ⟨b, off, none⟩) k cap] 25)).alloc (.cells #[.int .i64 0, .bool false, .int .i64 0] 38)).drewN t ∧ Hid (∀ i, i < j → isB vars (ys.getD i 0) = true)) (fun i _ => m - (intOf i).toNat)
          case atStart => exact ⟨0, t, Nat.zero_le _, rfl, rfl, fun j hj => absurd hj (Nat.not_lt_zero _)⟩
          case round =>
            obtain ⟨j, t2, hj, rfl, rfl, HP⟩ := hrel
            by_cases hjl : j < m
            · obtain ⟨b2, off2, ha2, hb2, hc2'⟩ := HRV.out.resolve_left (by omega)
              subst ha2
              have g2 : w.cell? ⟨b2, off2 + j, none⟩ = some (.int .i64 (ys.getD j 0)) := hc2' j hjl
              clear hc2'
              have hjy : j < ys.length := by rw [HM.out]; exact hjl
              have hmem2 : ys.getD j 0 ∈ ys := by simp [List.getD, hjy]
              obtain ⟨hl1, hl2⟩ := HIK.out _ hmem2
              have HME := Lib.hid hmem2; clear hmem2 hjy
              generalize hlj : ys.getD j 0 = l at *
              have HLJ := Lib.hid hlj; clear hlj
              have HIS := Lib.hid (fun W => refIs_any l vars W hl1 hl2 hv1 hv2)
              obtain ⟨r, hr⟩ : ∃ r, isB vars l = r := ⟨_, rfl⟩
              rw [hr] at HIS
              have HRR := Lib.hid hr; clear hr
              cases r with
              | true =>
                go_wp2_with fail
                go_quiet ((go_at_call 64; refine (HIS.out _).mono ?_; rintro e w' ⟨rfl, rfl⟩; exact ⟨rfl, _, rfl⟩))
                go_wp2
                go_roundw
                case rel =>
                  refine ⟨j + 1, _, by omega, by go_num, rfl, fun i hi => ?_⟩
                  by_cases e : i = j
                  · rw [e, HLJ.out]; exact HRR.out
                  · exact HP.out i (by omega)
                case measure => simp [intOf]; omega
              | false =>
                have HFB := Lib.hid (show firstBad vars xss q from ⟨HKL.out, HQ.out, l, by rw [HYS.out]; exact HME.out, HRR.out⟩)
                go_wp2_with fail
                go_quiet ((go_at_call 64; refine (HIS.out _).mono ?_; rintro e w' ⟨rfl, rfl⟩; exact ⟨rfl, _, rfl⟩))
                go_wp2_with (go_at_call 50; refine (HPL.out _ _).mono ?_; rintro e w2 ⟨rfl, hb2⟩; obtain ⟨hc, hf⟩ := bcell hb2; unfold faultV)
                exact bodyPost_ret (v := .agg #[.int .i64 104, .bool true, .int .i64 q]) (by simp [results, Tryd.results49, go_sem, hc]) rfl ⟨104, true, q, rfl, .inr (.inl ⟨HNT.out, q, HFB.out, rfl, rfl, rfl⟩), (((hbw.trans ((below_draws ⟨_, rfl⟩).trans hb2 |>.mono hbw.size)).setCell (by simp) _).setCell (by simp) _).setCell (by simp) _⟩
            · have hjm : j = m := by omega
              have HALL := Lib.hid (show ∀ j', j' < q + 1 → ∀ l ∈ xss.getD j' [], isB vars l = true from by
                intro j' hj' l hl
                by_cases e : j' = q
                · rw [e, HYS.out] at hl
                  obtain ⟨i, hi, rfl⟩ := List.getElem_of_mem hl
                  have := HP.out i (by rw [HM.out] at hi; omega)
                  simpa [List.getD, hi] using this
                · exact HQ.out j' (by omega) l hl)
              clear hjl
              go_wp2_with fail
              go_roundw
              case rel => exact ⟨q + 1, _, by omega, by go_num, rfl, HALL.out⟩
              case measure => simp [intOf]; omega
        · have hkn : q = k := by omega
          have HALL := Lib.hid (show allIs vars xss from by
            intro xs hxs l hl
            obtain ⟨i, hi, rfl⟩ := List.getElem_of_mem hxs
            exact HQ.out i (by rw [HN.out] at hi; omega) l (by simpa [List.getD, hi] using hl))
          clear hlt
          go_wp2_with (go_at_call 51; refine (HNO.out _).mono ?_; rintro e w2 ⟨rfl, hb2⟩; obtain ⟨hc, hf⟩ := bcell hb2; unfold faultV)
          exact bodyPost_ret (v := .agg #[.int .i64 0, .bool false, .int .i64 0]) (by simp [results, Tryd.results49, go_sem, hc]) rfl ⟨0, false, 0, rfl, .inr (.inr ⟨HNT.out, HALL.out, rfl, rfl, rfl⟩), (((hbw.trans ((below_draws ⟨_, rfl⟩).trans hb2 |>.mono hbw.size)).setCell (by simp) _).setCell (by simp) _).setCell (by simp) _⟩
end Go.Proofs.YtcodmijphejfdaaDoor
