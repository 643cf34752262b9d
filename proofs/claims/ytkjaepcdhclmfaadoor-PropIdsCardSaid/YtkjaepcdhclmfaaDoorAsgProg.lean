/- Contracts of the small methods of assign.Assign: is, Value, Set, Unset, and of assign.opposite, over values in memory. Conditions: the literals lie strictly inside the 64 bits. -/
import Derived.Test.YtkjaepcdhclmfaaDoorAsg
import Derived.Test.YtkjaepcdhclmfaaDoorChecked
import Derived.IntWalk
namespace Go.Proofs.YtkjaepcdhclmfaaDoor
open Go.RowKit

set_option maxHeartbeats 400000 in
theorem opposite_any (x : Int) (w : World) :
    Calls Tryd.prog 45 #[.int .i64 x] w fun e w' => e = .returned (.int .i64 (opp x)) ∧ w = w' := by
  unfold opp
  by_cases h1 : x = 1
  · subst h1
    go_enter Tryd.func45, Tryd.ntmps45
    go_wp2
    go_ret
    exact ⟨rfl, rfl⟩
  · by_cases h2 : x = 2
    · subst h2
      go_enter Tryd.func45, Tryd.ntmps45
      go_wp2
      go_ret
      exact ⟨rfl, rfl⟩
    · rw [if_neg h1, if_neg h2]
      have h1b : (x == 1) = false := by simp [h1]
      have h2b : (x == 2) = false := by simp [h2]
      go_enter Tryd.func45, Tryd.ntmps45
      go_wp2
      go_ret
      exact ⟨rfl, rfl⟩

theorem plc_absI (l : Int) : (plc l : Int) = absI l := by unfold plc; have := absI_pos l; omega
theorem isB_right (V : List Int) (l : Int) : (decide (1 ≤ absI l) && decide (absI l ≤ (V.length : Int) - 1)) = rightB V l := by
  have e := plc_absI l
  unfold rightB
  rw [← e]
  congr 1
  · simp; omega
  · simp; omega

set_option maxHeartbeats 400000 in
theorem asgIs_any {w : World} {B : Nat} {v : Value} {p q : Nat} {V : List Int} (h : Asg w B v p q V) (l : Int) (h1 : -9223372036854775807 ≤ l) (h2 : l ≤ 9223372036854775807) :
    Calls Tryd.prog 44 #[v, .int .i64 l] w fun e w' => e = .returned (.bool (rightB V l)) ∧ w = w' := by
  have H := Lib.hid (is_any l ((V.length : Int) - 1) w h1 h2)
  have HB := Lib.hid (isB_right V l)
  have hlen := h.vals.len
  have hpos := h.vals.pos
  have g0 := h.head
  obtain rfl := h.val
  clear h
  generalize rightB V l = r at *
  generalize V.length = n at *
  go_enter Tryd.func44, Tryd.ntmps44
  go_wp2_with (go_at_call 30; refine H.out.mono ?_; rintro e w' ⟨rfl, rfl⟩)
  go_ret
  exact ⟨ret_bool HB.out, rfl⟩

theorem valL_at {V : List Int} {l : Int} {m : Nat} (hm : plc l = m) (h1 : 1 ≤ m) (h2 : m < V.length) : valL V l = if 0 < l then V.getD m 0 else opp (V.getD m 0) := by
  unfold valL; rw [if_pos (by rw [rightB_iff]; omega), hm]
theorem valL_not {V : List Int} {l : Int} (h : rightB V l = false) : valL V l = 0 := by
  unfold valL; rw [if_neg (by rw [h]; simp)]
theorem plc_pos {l : Int} (h : 0 < l) : (plc l : Int) = l := by rw [plc_absI]; unfold absI; rw [if_neg (by omega)]
theorem plc_neg {l : Int} (h : l < 0) : (plc l : Int) = -l := by rw [plc_absI]; unfold absI; rw [if_pos h]
theorem plc_zero : plc 0 = 0 := by unfold plc absI; simp

set_option maxHeartbeats 1000000 in
theorem value_any {w : World} {B : Nat} {v : Value} {p q : Nat} {V : List Int} (h : Asg w B v p q V) (l : Int) (h1 : -9223372036854775807 ≤ l) (h2 : l ≤ 9223372036854775807) :
    Calls Tryd.prog 28 #[v, .int .i64 l] w fun e w' => e = .returned (.int .i64 (valL V l)) ∧ w = w' := by
  have H := Lib.hid (asgIs_any h l h1 h2)
  have HO := Lib.hid opposite_any
  have hlen := h.vals.len
  have g0 := h.head
  have HC := Lib.hid h.cells
  obtain rfl := h.val
  clear h
  by_cases hr : rightB V l = true
  · rw [hr] at H
    rw [rightB_iff] at hr
    obtain ⟨hr1, hr2⟩ := hr
    by_cases hl : 0 < l
    · have hm := plc_pos hl
      have HV := Lib.hid (valL_at (V := V) (l := l) rfl hr1 hr2)
      generalize plc l = m at *
      rw [if_pos hl] at HV
      subst hm
      have g1 := HC.out m hr2
      generalize V.getD m 0 = x at *
      generalize V.length = n at *
      go_enter Tryd.func28, Tryd.ntmps28
      go_wp2_with (go_at_call 44; refine H.out.mono ?_; rintro e w' ⟨rfl, rfl⟩)
      go_ret
      exact ⟨ret_int HV.out.symm, rfl⟩
    · have hl' : l < 0 := by
        have : l ≠ 0 := fun e => by subst e; rw [plc_zero] at hr1; omega
        omega
      have hm := plc_neg hl'
      have HV := Lib.hid (valL_at (V := V) (l := l) rfl hr1 hr2)
      generalize plc l = m at *
      rw [if_neg hl] at HV
      obtain rfl : l = -(m : Int) := by omega
      have g1 := HC.out m hr2
      generalize V.getD m 0 = x at *
      generalize V.length = n at *
      clear hm
      go_enter Tryd.func28, Tryd.ntmps28
      go_wp2_with (first | (go_at_call 44; refine H.out.mono ?_; rintro e w' ⟨rfl, rfl⟩) | (go_at_call 45; refine (HO.out _ _).mono ?_; rintro e w' ⟨rfl, rfl⟩))
      go_ret
      exact ⟨ret_int HV.out.symm, rfl⟩
  · have hr' : rightB V l = false := by simpa using hr
    rw [hr'] at H
    rw [valL_not hr']
    clear hr hr'
    generalize V.length = n at *
    go_enter Tryd.func28, Tryd.ntmps28
    go_wp2_with (go_at_call 44; refine H.out.mono ?_; rintro e w' ⟨rfl, rfl⟩)
    go_ret
    exact ⟨rfl, rfl⟩

def SetPost (w : World) (B : Nat) (v : Value) (p q : Nat) (V : List Int) (l : Int) (e : Ending) (w' : World) : Prop :=
  e = .returned (.bool (setOk V l)) ∧ Asg w' B v p q (setV V l) ∧ Only q w w'
theorem setOk_right {V : List Int} {l : Int} (h : rightB V l = false) : setOk V l = false := by unfold setOk; rw [h]; rfl

set_option maxHeartbeats 1000000 in
theorem set_any {w : World} {B : Nat} {v : Value} {p q : Nat} {V : List Int} (h : Asg w B v p q V) (l : Int) (h1 : -9223372036854775807 ≤ l) (h2 : l ≤ 9223372036854775807) :
    Calls Tryd.prog 29 #[v, .int .i64 l] w (SetPost w B v p q V l) := by
  have H := Lib.hid (asgIs_any h l h1 h2)
  have HV := Lib.hid (value_any h l h1 h2)
  have hlen := h.vals.len
  have g0 := h.head
  have HC := Lib.hid h.cells
  have HA := Lib.hid h
  have g2 := h.free (plc l)
  obtain rfl := h.val
  clear h
  by_cases hr : rightB V l = true
  · have HR := Lib.hid hr
    rw [hr] at H
    rw [rightB_iff] at hr
    obtain ⟨hr1, hr2⟩ := hr
    by_cases hv : valL V l = 2
    · have HK := Lib.hid (show setOk V l = false by unfold setOk; rw [HR.out, hv]; rfl)
      rw [hv] at HV
      clear hv g2
      go_enter Tryd.func29, Tryd.ntmps29
      go_wp2_with (first | (go_at_call 44; refine H.out.mono ?_; rintro e w' ⟨rfl, rfl⟩) | (go_at_call 28; refine HV.out.mono ?_; rintro e w' ⟨rfl, rfl⟩))
      go_ret
      exact ⟨ret_bool HK.out.symm, by unfold setV; rw [HK.out]; exact HA.out, Only.refl _ _⟩
    · have HK := Lib.hid (show setOk V l = true by unfold setOk; rw [HR.out]; simp [hv])
      have hvb : (valL V l == 2) = false := by simp [hv]
      generalize valL V l = x at *
      have HS := Lib.hid (show setV V l = V.set (plc l) (if 0 < l then 1 else 2) by unfold setV; rw [HK.out]; rfl)
      have HN := Lib.hid (fun (y : Int) hy => HA.out.set (plc l) y hr2 (fun e => by omega) hy)
      have g1 := HC.out _ hr2
      by_cases hl : 0 < l
      · have hm := plc_pos hl
        rw [if_pos hl] at HS
        generalize plc l = m at *
        subst hm
        clear hv
        generalize V.getD m 0 = y at *
        go_enter Tryd.func29, Tryd.ntmps29
        go_wp2_with (first | (go_at_call 44; refine H.out.mono ?_; rintro e w' ⟨rfl, rfl⟩) | (go_at_call 28; refine HV.out.mono ?_; rintro e w' ⟨rfl, rfl⟩))
        go_ret
        exact ⟨ret_bool HK.out.symm, by rw [HS.out]; exact HN.out 1 (by simp), Only.setCell _ _ _ _⟩
      · have hl' : l < 0 := by
          have : l ≠ 0 := fun e => by subst e; rw [plc_zero] at hr1; omega
          omega
        have hm := plc_neg hl'
        rw [if_neg hl] at HS
        generalize plc l = m at *
        obtain rfl : l = -(m : Int) := by omega
        clear hm hv
        generalize V.getD m 0 = y at *
        go_enter Tryd.func29, Tryd.ntmps29
        go_wp2_with (first | (go_at_call 44; refine H.out.mono ?_; rintro e w' ⟨rfl, rfl⟩) | (go_at_call 28; refine HV.out.mono ?_; rintro e w' ⟨rfl, rfl⟩))
        go_ret
        exact ⟨ret_bool HK.out.symm, by rw [HS.out]; exact HN.out 2 (by simp), Only.setCell _ _ _ _⟩
  · have hr' : rightB V l = false := by simpa using hr
    have HK := Lib.hid (setOk_right hr')
    rw [hr'] at H
    clear hr hr' g2
    go_enter Tryd.func29, Tryd.ntmps29
    go_wp2_with (go_at_call 44; refine H.out.mono ?_; rintro e w' ⟨rfl, rfl⟩)
    go_ret
    exact ⟨ret_bool HK.out.symm, by unfold setV; rw [HK.out]; exact HA.out, Only.refl _ _⟩

def UnsetPost (w : World) (B : Nat) (v : Value) (p q : Nat) (V : List Int) (l : Int) (e : Ending) (w' : World) : Prop :=
  e = .returned (.tuple #[]) ∧ Asg w' B v p q (unsetV V l) ∧ Only q w w'

end Go.Proofs.YtkjaepcdhclmfaaDoor
