/- Contracts of the small methods of skolemref1.Assign: Value, Set, over values in memory. Conditions: the literals lie strictly inside the 64 bits. -/
import Derived.Test.YtmlgpnaikdpifaaAsgProg
namespace Go.Proofs.Ytmlgpnaikdpifaa
open Go.RowKit

theorem refIsB (V : List Int) (l : Int) : isB ((V.length : Int) - 1) l = rightB V l := isB_right V l

set_option maxHeartbeats 1000000 in
theorem refValue_any {w : World} {B : Nat} {v : Value} {p q : Nat} {V : List Int} (h : Asg w B v p q V) (l : Int) (h1 : -9223372036854775807 ≤ l) (h2 : l ≤ 9223372036854775807) :
    Calls Try.prog 91 #[v, .int .i64 l] w fun e w' => e = .returned (.int .i64 (valL V l)) ∧ ∃ n, w' = w.drewN n := by
  have hlen := h.vals.len
  have hpos := h.vals.pos
  have H := Lib.hid (refIs_any l ((V.length : Int) - 1) w h1 h2 (by omega) (by omega))
  have HB := Lib.hid (refIsB V l)
  have HAb := Lib.hid (fun W => abs_any l W h1 h2)
  have g0 := h.head
  have HC := Lib.hid h.cells
  have h3 := h.vals.three (plc l)
  obtain rfl := h.val
  clear h
  by_cases hr : rightB V l = true
  · have HV := Lib.hid (show valL V l = if 0 < l then V.getD (plc l) 0 else opp (V.getD (plc l) 0) by unfold valL; rw [if_pos hr])
    rw [HB.out, hr] at H
    rw [rightB_iff] at hr
    obtain ⟨hr1, hr2⟩ := hr
    rw [opp_sub h3] at HV
    have g1 := HC.out _ hr2
    have e := plc_absI l
    rw [← e] at HAb
    clear HB
    have hz : l ≠ 0 := fun e => by subst e; rw [plc_zero] at hr1; omega
    generalize plc l = m at *
    clear e
    generalize hx : V.getD m 0 = x at *
    clear hx
    generalize V.length = n at *
    by_cases hl : 0 < l
    · have hl' : ¬ l < 0 := by omega
      rw [if_pos hl] at HV
      clear h3
      go_enter Try.func91, Try.ntmps91
      go_wp2_with (go_at_call 36; refine H.out.mono ?_; rintro e w' ⟨rfl, rfl⟩)
      go_quiet ((go_at_call 31; refine (HAb.out _).mono ?_; rintro e w' ⟨rfl, rfl⟩; exact ⟨rfl, _, rfl⟩))
      go_wp2
      go_ret
      exact ⟨ret_int HV.out.symm, _, rfl⟩
    · have hl' : l < 0 := by omega
      rw [if_neg hl] at HV
      clear hl hz
      by_cases hx0 : x = 0
      · subst hx0
        rw [if_pos rfl] at HV
        clear h3
        go_enter Try.func91, Try.ntmps91
        go_wp2_with (go_at_call 36; refine H.out.mono ?_; rintro e w' ⟨rfl, rfl⟩)
        go_quiet ((go_at_call 31; refine (HAb.out _).mono ?_; rintro e w' ⟨rfl, rfl⟩; exact ⟨rfl, _, rfl⟩))
        go_wp2
        go_ret
        exact ⟨ret_int HV.out.symm, _, rfl⟩
      · rw [if_neg hx0] at HV
        have hxb : (x != 0) = true := by simp [hx0]
        have hx1 : 0 ≤ x := by omega
        have hx2 : x ≤ 2 := by omega
        clear h3 hx0
        go_enter Try.func91, Try.ntmps91
        go_wp2_with (go_at_call 36; refine H.out.mono ?_; rintro e w' ⟨rfl, rfl⟩)
        go_quiet ((go_at_call 31; refine (HAb.out _).mono ?_; rintro e w' ⟨rfl, rfl⟩; exact ⟨rfl, _, rfl⟩))
        go_wp2
        go_ret
        exact ⟨ret_int HV.out.symm, _, rfl⟩
  · have hr' : rightB V l = false := by simpa using hr
    rw [HB.out, hr'] at H
    rw [valL_not hr']
    clear hr hr' HB h3
    generalize V.length = n at *
    go_enter Try.func91, Try.ntmps91
    go_wp2_with (go_at_call 36; refine H.out.mono ?_; rintro e w' ⟨rfl, rfl⟩)
    go_ret
    exact ⟨rfl, 0, rfl⟩

theorem Asg.drewN {w : World} {B : Nat} {v : Value} {p q : Nat} {V : List Int} (h : Asg w B v p q V) (n : Nat) : Asg (w.drewN n) B v p q V := h.keep (below_draws ⟨n, rfl⟩)

set_option maxHeartbeats 1000000 in
theorem refSet_any {w : World} {B : Nat} {v : Value} {p q : Nat} {V : List Int} (h : Asg w B v p q V) (l : Int) (h1 : -9223372036854775807 ≤ l) (h2 : l ≤ 9223372036854775807) :
    Calls Try.prog 71 #[v, .int .i64 l] w (SetPost w B v p q V l) := by
  have hlen := h.vals.len
  have hpos := h.vals.pos
  have H := Lib.hid (refIs_any l ((V.length : Int) - 1) w h1 h2 (by omega) (by omega))
  have HB := Lib.hid (refIsB V l)
  have HV := Lib.hid (refValue_any h l h1 h2)
  have g0 := h.head
  have HC := Lib.hid h.cells
  have HF := Lib.hid h.free
  have HA := Lib.hid h
  obtain rfl := h.val
  clear h
  rw [HB.out] at H
  clear HB
  by_cases hr : rightB V l = true
  · have HR := Lib.hid hr
    rw [hr] at H
    rw [rightB_iff] at hr
    obtain ⟨hr1, hr2⟩ := hr
    by_cases hv : valL V l = 2
    · have HK := Lib.hid (show setOk V l = false by unfold setOk; rw [HR.out, hv]; rfl)
      rw [hv] at HV
      clear hv
      go_enter Try.func71, Try.ntmps71
      go_wp2_with (first | (go_at_call 36; refine H.out.mono ?_; rintro e w' ⟨rfl, rfl⟩) | (go_at_call 91; refine HV.out.mono ?_; rintro e w' ⟨rfl, nn, rfl⟩))
      go_ret
      exact ⟨ret_bool HK.out.symm, by unfold setV; rw [HK.out]; exact HA.out.drewN _, Only.of_below (below_draws ⟨_, rfl⟩)⟩
    · have HK := Lib.hid (show setOk V l = true by unfold setOk; rw [HR.out]; simp [hv])
      have hvb : (valL V l == 2) = false := by simp [hv]
      generalize valL V l = x at *
      have HS := Lib.hid (show setV V l = V.set (plc l) (if 0 < l then 1 else 2) by unfold setV; rw [HK.out]; rfl)
      have HN := Lib.hid (fun (nn : Nat) (y : Int) hy => (HA.out.drewN nn).set (plc l) y hr2 (fun e => by omega) hy)
      have g1 := HC.out _ hr2
      have g2 := HF.out (plc l)
      by_cases hl : 0 < l
      · have hm := plc_pos hl
        rw [if_pos hl] at HS
        generalize plc l = m at *
        subst hm
        clear hv
        generalize V.getD m 0 = y at *
        go_enter Try.func71, Try.ntmps71
        go_wp2_with (first | (go_at_call 36; refine H.out.mono ?_; rintro e w' ⟨rfl, rfl⟩) | (go_at_call 91; refine HV.out.mono ?_; rintro e w' ⟨rfl, nn, rfl⟩))
        go_ret
        exact ⟨ret_bool HK.out.symm, by rw [HS.out]; exact HN.out _ 1 (by simp), (Only.of_below (below_draws ⟨_, rfl⟩)).trans (Only.setCell _ _ _ _)⟩
      · have hl' : l < 0 := by
          have : l ≠ 0 := fun e => by subst e; rw [plc_zero] at hr1; omega
          omega
        have hm := plc_neg hl'
        rw [if_neg hl] at HS
        generalize plc l = m at *
        obtain rfl : l = -(m : Int) := by omega
        clear hm hv
        generalize V.getD m 0 = y at *
        go_enter Try.func71, Try.ntmps71
        go_wp2_with (first | (go_at_call 36; refine H.out.mono ?_; rintro e w' ⟨rfl, rfl⟩) | (go_at_call 91; refine HV.out.mono ?_; rintro e w' ⟨rfl, nn, rfl⟩))
        go_ret
        exact ⟨ret_bool HK.out.symm, by rw [HS.out]; exact HN.out _ 2 (by simp), (Only.of_below (below_draws ⟨_, rfl⟩)).trans (Only.setCell _ _ _ _)⟩
  · have hr' : rightB V l = false := by simpa using hr
    have HK := Lib.hid (setOk_right hr')
    rw [hr'] at H
    clear hr hr'
    go_enter Try.func71, Try.ntmps71
    go_wp2_with (go_at_call 36; refine H.out.mono ?_; rintro e w' ⟨rfl, rfl⟩)
    go_ret
    exact ⟨ret_bool HK.out.symm, by unfold setV; rw [HK.out]; exact HA.out, Only.refl _ _⟩

end Go.Proofs.Ytmlgpnaikdpifaa
