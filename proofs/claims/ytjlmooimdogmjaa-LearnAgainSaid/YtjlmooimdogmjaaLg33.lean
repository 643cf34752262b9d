/- Contracts of skolemref1.Assign's All, Known and of skolemref1.Of. Conditions: the literals lie strictly inside the 64 bits and are not 0. -/
import Derived.Test.YtjlmooimdogmjaaLg32
set_option linter.unusedVariables false
set_option linter.unusedSimpArgs false
namespace Go.Proofs.Ytjlmooimdogmjaa
open Go.RowKit

theorem row_nz {xss : List (List Int)} (h : ∀ xs ∈ xss, ∀ x ∈ xs, x ≠ 0) (k : Nat) : ∀ x ∈ xss.getD k [], x ≠ 0 := by
  by_cases hk : k < xss.length
  · have := h _ (List.getElem_mem hk); simpa [List.getD, hk] using this
  · intro x hx; simp [List.getD, show xss.length ≤ k by omega] at hx

set_option maxRecDepth 4000 in
set_option maxHeartbeats 2000000 in
theorem refKnown_any {w : World} {B : Nat} {v : Value} {p q : Nat} {V : List Int} (h : Asg w B v p q V) :
    Calls Try.prog 56 #[v] w (KnownPost w (knownL V)) := by
  have hlen := h.vals.len
  have hpos := h.vals.pos
  have HT3 := Lib.hid h.vals.three
  have HZ := Lib.hid (show knownTo V 1 = [] by rw [knownTo_succ, h.vals.zero]; rfl)
  have g0 := h.head
  have HC := Lib.hid h.cells
  have hp := h.sp
  have hq := h.sq
  obtain rfl := h.val
  clear h
  have HKL := Lib.hid (show knownL V = knownTo V V.length from rfl)
  generalize hN : V.length = n at *
  have HN := Lib.hid hN; clear hN
  go_enter Try.func56, Try.ntmps56
  go_wp2_with fail
  go_loopw [3, 4] (fun o i wr => ∃ k : Nat, 1 ≤ k ∧ k ≤ n ∧ i = .int .i64 k ∧ wr.ownsRow w.heap.size 3 1 o (knownTo V k).length ((knownTo V k).map (Value.int .i64)) ∧ Below w.heap.size w wr) (fun _ i _ => n - (intOf i).toNat)
  case atStart => exact ⟨1, Nat.le_refl _, hpos, rfl, by rw [HZ.out]; exact ⟨rfl, .inl ⟨rfl, rfl⟩⟩, Below.refl _ _⟩
  case round =>
    obtain ⟨k, hk1, hk, rfl, hown, hbr⟩ := hrel
    have g2 : wr.cell? ⟨p, 0, none⟩ = some (.slice (some ⟨q, 0, none⟩) n n) := (hbr.cell (p := ⟨p, 0, none⟩) hp).trans g0
    by_cases hlt : k < n
    · have g1 : wr.cell? ⟨q, k, none⟩ = some (.int .i64 (V.getD k 0)) := (hbr.cell (p := ⟨q, k, none⟩) hq).trans (HC.out k hlt)
      have HS := Lib.hid (knownTo_succ V k)
      have hkl := knownTo_len V k
      have h3 := HT3.out k
      generalize V.getD k 0 = x at *
      have HBR := Lib.hid hbr; clear hbr
      rcases h3 with rfl | rfl | rfl
      · have HS' := Lib.hid (show knownTo V (k + 1) = knownTo V k by rw [HS.out]; simp [known1])
        clear HS
        go_wp2
        go_roundw
        case rel => exact ⟨k + 1, by omega, by omega, by go_num, by rw [HS'.out]; exact hown, HBR.out⟩
        case measure => simp [intOf]; omega
      · have HS' := Lib.hid (show knownTo V (k + 1) = knownTo V k ++ [(k : Int)] by rw [HS.out]; simp [known1])
        clear HS
        go_wp2_with (at_builtin; refine wpList_app1 rfl _ _ rfl wr w.heap.size _ _ _ (k : Int) hown HBR.out.size (by omega) rfl rfl ?_; intro v' w2 hown2 hb3; have HB3 := Lib.hid (HBR.out.trans hb3.below); clear hb3; have g3 : w2.cell? ⟨p, 0, none⟩ = some (.slice (some ⟨q, 0, none⟩) n n) := (HB3.out.cell (p := ⟨p, 0, none⟩) hp).trans g0; have g4 : w2.cell? ⟨q, k, none⟩ = some (.int .i64 1) := ((HB3.out.cell (p := ⟨q, k, none⟩) hq).trans (HBR.out.cell (p := ⟨q, k, none⟩) hq).symm).trans g1)
        go_roundw
        case rel => exact ⟨k + 1, by omega, by omega, by go_num, by rw [HS'.out, List.length_append]; exact hown2, HB3.out⟩
        case measure => simp [intOf]; omega
      · have HS' := Lib.hid (show knownTo V (k + 1) = knownTo V k ++ [-(k : Int)] by rw [HS.out]; simp [known1])
        clear HS
        go_wp2_with (at_builtin; refine wpList_app1 rfl _ _ rfl wr w.heap.size _ _ _ (-(k : Int)) hown HBR.out.size (by omega) rfl rfl ?_; intro v' w2 hown2 hb3)
        go_roundw
        case rel => exact ⟨k + 1, by omega, by omega, by go_num, by rw [HS'.out, List.length_append]; exact hown2, HBR.out.trans hb3.below⟩
        case measure => simp [intOf]; omega
    · have hkn : k = n := by omega
      subst hkn
      rw [← HKL.out] at hown
      clear hlt
      go_wp2
      go_ret
      exact ⟨_, rfl, hown, hbr⟩

set_option maxRecDepth 4000 in
set_option maxHeartbeats 4000000 in
theorem refOf_any (a : Option Addr) (cap : Nat) (xss : List (List Int)) (mv : Value) (bs : List Bool) (w : World) (hr : RowsAt w a cap xss) (hm : BRow w mv bs) (hxs : ∀ xs ∈ xss, InW xs) :
    Calls Try.prog 30 #[.slice a xss.length cap, mv] w fun e w' => e = .returned (.bool (ofL xss bs)) ∧ w = w' := by
  obtain ⟨hc1, hc2, hr⟩ := hr
  unfold maxLen at hc2
  have HR := Lib.hid hr; clear hr
  have HW := Lib.hid hxs; clear hxs
  obtain ⟨a2, c2, rfl, hm1, hm2, hm3⟩ := hm
  unfold maxLen at hm2
  have HM := Lib.hid hm3; clear hm3
  generalize hN : xss.length = n at *
  have HN := Lib.hid hN; clear hN
  generalize hR : bs.length = r at *
  have HRB := Lib.hid hR; clear hR
  go_enter Try.func30, Try.ntmps30
  go_wp2_with fail
  go_loop [5, 6, 7, 8] (fun i _ _ _ => ∃ k : Nat, k ≤ n ∧ i = .int .i64 k ∧ Hid (ofL (xss.take k) bs = true)) (fun i _ _ _ => n - (intOf i).toNat)
  case atStart => exact ⟨0, Nat.zero_le _, rfl, by simp [Hid, ofL]⟩
  case round =>
    obtain ⟨k, hk, rfl, HQ⟩ := hrel
    by_cases hlt : k < n
    · obtain ⟨b, off, ha, hb, hc⟩ := HR.out.resolve_left (by omega)
      subst ha
      obtain ⟨v, g1, hv⟩ := hc k hlt
      clear hc
      have hkl : k < xss.length := by rw [HN.out]; exact hlt
      have HT := Lib.hid (ofL_succ xss bs k hkl)
      have HF := Lib.hid (ofL_no xss bs k hkl)
      have HWk := Lib.hid (row_inW HW.out k)
      generalize xss.getD k [] = ys at *
      obtain ⟨av, cv, rfl, hv1, hv2, hv3⟩ := hv
      unfold maxLen at hv2
      have HY := Lib.hid hv3; clear hv3
      generalize hL : ys.length = m at *
      have HL := Lib.hid hL; clear hL
      go_wp2_with fail
      go_loop [6, 7, 8] (fun is j _ => ∃ (q : Nat) (t : Bool), q ≤ m ∧ is = .bool t ∧ j = .int .i64 q ∧ Hid ((ys.take q).any (holdsL bs) = t)) (fun _ j _ => m - (intOf j).toNat)
      case atStart => exact ⟨0, false, Nat.zero_le _, rfl, rfl, by simp [Hid]⟩
      case round =>
        obtain ⟨q, t, hq, rfl, rfl, HP⟩ := hrel
        by_cases hql : q < m
        · obtain ⟨b3, off3, ha3, hb3, hc3⟩ := HY.out.resolve_left (by omega)
          subst ha3
          have g2 := hc3 q hql
          clear hc3
          have hyb := HWk.out.get q
          have HU := Lib.hid (any_snoc (holdsL bs) ys q (by rw [HL.out]; exact hql))
          generalize ys.getD q 0 = y at *
          obtain ⟨hy1, hy2⟩ := hyb
          have HH := Lib.hid (show holdsL bs y = ((decide (1 ≤ plc y) && decide (plc y < bs.length)) && (bs.getD (plc y) false == decide (0 < y))) from rfl)
          rw [HRB.out] at HH
          rw [HP.out] at HU
          by_cases hyp : 0 < y
          · have hpm := plc_pos hyp
            have hyn : ¬ y < 0 := by omega
            generalize plc y = z at *
            subst hpm
            have hzd : decide (0 < (z : Int)) = true := by rw [decide_eq_true_iff]; exact hyp
            rw [hzd] at HH
            clear hzd
            by_cases hz : z < r
            · obtain ⟨b4, off4, ha4, hb4, hc4⟩ := HM.out.resolve_left (by omega)
              subst ha4
              have g3 := hc4 z hz
              clear hc4
              generalize bs.getD z false = x at *
              have hz1 : (decide (1 ≤ z) && decide (z < r)) = true := by simp; omega
              rw [hz1] at HH
              clear hz1
              cases x with
              | true =>
                have HU' := Lib.hid (show (ys.take (q + 1)).any (holdsL bs) = true by rw [HU.out, HH.out]; simp)
                clear HU
                go_wp2
                go_round
                case rel => exact ⟨q + 1, true, by omega, rfl, by go_num, HU'.out⟩
                case measure => simp [intOf]; omega
              | false =>
                have HU' := Lib.hid (show (ys.take (q + 1)).any (holdsL bs) = t by rw [HU.out, HH.out]; simp)
                clear HU
                go_wp2
                go_round
                case rel => exact ⟨q + 1, t, by omega, rfl, by go_num, HU'.out⟩
                case measure => simp [intOf]; omega
            · have hz1 : (decide (1 ≤ z) && decide (z < r)) = false := by simp; omega
              rw [hz1] at HH
              clear hz1
              have HU' := Lib.hid (show (ys.take (q + 1)).any (holdsL bs) = t by rw [HU.out, HH.out]; simp)
              clear HU
              go_wp2
              go_round
              case rel => exact ⟨q + 1, t, by omega, rfl, by go_num, HU'.out⟩
              case measure => simp [intOf]; omega
          · by_cases hyn : y < 0
            · have hpm := plc_neg hyn
              have hzd : decide (0 < y) = false := by simp; omega
              rw [hzd] at HH
              clear hzd
              generalize plc y = z at *
              obtain rfl : y = -(z : Int) := by omega
              clear hpm
              by_cases hz : z < r
              · obtain ⟨b4, off4, ha4, hb4, hc4⟩ := HM.out.resolve_left (by omega)
                subst ha4
                have g3 := hc4 z hz
                clear hc4
                generalize bs.getD z false = x at *
                have hz1 : (decide (1 ≤ z) && decide (z < r)) = true := by simp; omega
                rw [hz1] at HH
                clear hz1
                cases x with
                | false =>
                  have HU' := Lib.hid (show (ys.take (q + 1)).any (holdsL bs) = true by rw [HU.out, HH.out]; simp)
                  clear HU
                  go_wp2
                  go_round
                  case rel => exact ⟨q + 1, true, by omega, rfl, by go_num, HU'.out⟩
                  case measure => simp [intOf]; omega
                | true =>
                  have HU' := Lib.hid (show (ys.take (q + 1)).any (holdsL bs) = t by rw [HU.out, HH.out]; simp)
                  clear HU
                  go_wp2
                  go_round
                  case rel => exact ⟨q + 1, t, by omega, rfl, by go_num, HU'.out⟩
                  case measure => simp [intOf]; omega
              · have hz1 : (decide (1 ≤ z) && decide (z < r)) = false := by simp; omega
                rw [hz1] at HH
                clear hz1
                have HU' := Lib.hid (show (ys.take (q + 1)).any (holdsL bs) = t by rw [HU.out, HH.out]; simp)
                clear HU
                go_wp2
                go_round
                case rel => exact ⟨q + 1, t, by omega, rfl, by go_num, HU'.out⟩
                case measure => simp [intOf]; omega
            · obtain rfl : y = 0 := by omega
              rw [plc_zero] at HH
              have HU' := Lib.hid (show (ys.take (q + 1)).any (holdsL bs) = t by rw [HU.out, HH.out]; simp)
              clear HU
              go_wp2
              go_round
              case rel => exact ⟨q + 1, t, by omega, rfl, by go_num, HU'.out⟩
              case measure => simp [intOf]; omega
        · have hqm : q = m := by omega
          have hl : ys.take q = ys := List.take_of_length_le (by rw [HL.out]; omega)
          have HO := Lib.hid (show ofC bs ys = t by have := HP.out; rwa [hl] at this)
          clear hl hql
          cases t with
          | false =>
            have HF' := Lib.hid (HF.out HO.out)
            clear HF HT
            go_wp2
            go_ret
            exact ⟨ret_bool HF'.out.symm, rfl⟩
          | true =>
            have HT' := Lib.hid (show ofL (xss.take (k + 1)) bs = true by rw [HT.out, HQ.out, HO.out]; rfl)
            clear HF HT
            go_wp2
            go_round
            case rel => exact ⟨k + 1, by omega, by go_num, HT'.out⟩
            case measure => simp [intOf]; omega
    · have hkn : k = n := by omega
      have HA := Lib.hid (show ofL xss bs = true by have := HQ.out; rwa [hkn, List.take_of_length_le (by rw [HN.out]; exact Nat.le_refl _)] at this)
      clear hlt HQ
      go_wp2
      go_ret
      exact ⟨ret_bool HA.out.symm, rfl⟩
end Go.Proofs.Ytjlmooimdogmjaa
