/- Contracts of the small methods of assign.Assign: is, Value, Set, Unset, and of assign.opposite, over values in memory. Conditions: the literals lie strictly inside the 64 bits. -/
import Derived.Test.YtmlgpnaikdpifaaAsg
import Derived.Test.YtmlgpnaikdpifaaChecked
import Derived.IntWalk
namespace Go.Proofs.Ytmlgpnaikdpifaa
open Go.RowKit

set_option maxHeartbeats 400000 in
theorem opposite_any (x : Int) (w : World) :
    Calls Try.prog 87 #[.int .i64 x] w fun e w' => e = .returned (.int .i64 (opp x)) ∧ w = w' := by
  unfold opp
  by_cases h1 : x = 1
  · subst h1
    go_enter Try.func87, Try.ntmps87
    go_wp2
    go_ret
    exact ⟨rfl, rfl⟩
  · by_cases h2 : x = 2
    · subst h2
      go_enter Try.func87, Try.ntmps87
      go_wp2
      go_ret
      exact ⟨rfl, rfl⟩
    · rw [if_neg h1, if_neg h2]
      have h1b : (x == 1) = false := by simp [h1]
      have h2b : (x == 2) = false := by simp [h2]
      go_enter Try.func87, Try.ntmps87
      go_wp2
      go_ret
      exact ⟨rfl, rfl⟩

theorem plc_absI (l : Int) : (plc l : Int) = absI l := by unfold plc; have := absI_pos l; omega
theorem isB_right (V : List Int) (l : Int) : (decide (1 ≤ absI l) && decide (absI l ≤ (V.length : Int) - 1)) = rightB V l := by
  have e := plc_absI l
  unfold rightB
  rw [← e]
  congr 1
  · simp; omega
  · simp; omega

set_option maxHeartbeats 400000 in
theorem asgIs_any {w : World} {B : Nat} {v : Value} {p q : Nat} {V : List Int} (h : Asg w B v p q V) (l : Int) (h1 : -9223372036854775807 ≤ l) (h2 : l ≤ 9223372036854775807) :
    Calls Try.prog 86 #[v, .int .i64 l] w fun e w' => e = .returned (.bool (rightB V l)) ∧ w = w' := by
  have H := Lib.hid (is_any l ((V.length : Int) - 1) w h1 h2)
  have HB := Lib.hid (isB_right V l)
  have hlen := h.vals.len
  have hpos := h.vals.pos
  have g0 := h.head
  obtain rfl := h.val
  clear h
  generalize rightB V l = r at *
  generalize V.length = n at *
  go_enter Try.func86, Try.ntmps86
  go_wp2_with (go_at_call 75; refine H.out.mono ?_; rintro e w' ⟨rfl, rfl⟩)
  go_ret
  exact ⟨ret_bool HB.out, rfl⟩

theorem valL_at {V : List Int} {l : Int} {m : Nat} (hm : plc l = m) (h1 : 1 ≤ m) (h2 : m < V.length) : valL V l = if 0 < l then V.getD m 0 else opp (V.getD m 0) := by
  unfold valL; rw [if_pos (by rw [rightB_iff]; omega), hm]
theorem valL_not {V : List Int} {l : Int} (h : rightB V l = false) : valL V l = 0 := by
  unfold valL; rw [if_neg (by rw [h]; simp)]
theorem plc_pos {l : Int} (h : 0 < l) : (plc l : Int) = l := by rw [plc_absI]; unfold absI; rw [if_neg (by omega)]
theorem plc_neg {l : Int} (h : l < 0) : (plc l : Int) = -l := by rw [plc_absI]; unfold absI; rw [if_pos h]
theorem plc_zero : plc 0 = 0 := by unfold plc absI; simp

set_option maxHeartbeats 1000000 in
theorem value_any {w : World} {B : Nat} {v : Value} {p q : Nat} {V : List Int} (h : Asg w B v p q V) (l : Int) (h1 : -9223372036854775807 ≤ l) (h2 : l ≤ 9223372036854775807) :
    Calls Try.prog 51 #[v, .int .i64 l] w fun e w' => e = .returned (.int .i64 (valL V l)) ∧ w = w' := by
  have H := Lib.hid (asgIs_any h l h1 h2)
  have HO := Lib.hid opposite_any
  have hlen := h.vals.len
  have g0 := h.head
  have HC := Lib.hid h.cells
  obtain rfl := h.val
  clear h
  by_cases hr : rightB V l = true
  · rw [hr] at H
    rw [rightB_iff] at hr
    obtain ⟨hr1, hr2⟩ := hr
    by_cases hl : 0 < l
    · have hm := plc_pos hl
      have HV := Lib.hid (valL_at (V := V) (l := l) rfl hr1 hr2)
      generalize plc l = m at *
      rw [if_pos hl] at HV
      subst hm
      have g1 := HC.out m hr2
      generalize V.getD m 0 = x at *
      generalize V.length = n at *
      go_enter Try.func51, Try.ntmps51
      go_wp2_with (go_at_call 86; refine H.out.mono ?_; rintro e w' ⟨rfl, rfl⟩)
      go_ret
      exact ⟨ret_int HV.out.symm, rfl⟩
    · have hl' : l < 0 := by
        have : l ≠ 0 := fun e => by subst e; rw [plc_zero] at hr1; omega
        omega
      have hm := plc_neg hl'
      have HV := Lib.hid (valL_at (V := V) (l := l) rfl hr1 hr2)
      generalize plc l = m at *
      rw [if_neg hl] at HV
      obtain rfl : l = -(m : Int) := by omega
      have g1 := HC.out m hr2
      generalize V.getD m 0 = x at *
      generalize V.length = n at *
      clear hm
      go_enter Try.func51, Try.ntmps51
      go_wp2_with (first | (go_at_call 86; refine H.out.mono ?_; rintro e w' ⟨rfl, rfl⟩) | (go_at_call 87; refine (HO.out _ _).mono ?_; rintro e w' ⟨rfl, rfl⟩))
      go_ret
      exact ⟨ret_int HV.out.symm, rfl⟩
  · have hr' : rightB V l = false := by simpa using hr
    rw [hr'] at H
    rw [valL_not hr']
    clear hr hr'
    generalize V.length = n at *
    go_enter Try.func51, Try.ntmps51
    go_wp2_with (go_at_call 86; refine H.out.mono ?_; rintro e w' ⟨rfl, rfl⟩)
    go_ret
    exact ⟨rfl, rfl⟩

def SetPost (w : World) (B : Nat) (v : Value) (p q : Nat) (V : List Int) (l : Int) (e : Ending) (w' : World) : Prop :=
  e = .returned (.bool (setOk V l)) ∧ Asg w' B v p q (setV V l) ∧ Only q w w'
theorem setOk_right {V : List Int} {l : Int} (h : rightB V l = false) : setOk V l = false := by unfold setOk; rw [h]; rfl

set_option maxHeartbeats 1000000 in
theorem set_any {w : World} {B : Nat} {v : Value} {p q : Nat} {V : List Int} (h : Asg w B v p q V) (l : Int) (h1 : -9223372036854775807 ≤ l) (h2 : l ≤ 9223372036854775807) :
    Calls Try.prog 74 #[v, .int .i64 l] w (SetPost w B v p q V l) := by
  have H := Lib.hid (asgIs_any h l h1 h2)
  have HV := Lib.hid (value_any h l h1 h2)
  have hlen := h.vals.len
  have g0 := h.head
  have HC := Lib.hid h.cells
  have HA := Lib.hid h
  have g2 := h.free (plc l)
  obtain rfl := h.val
  clear h
  by_cases hr : rightB V l = true
  · have HR := Lib.hid hr
    rw [hr] at H
    rw [rightB_iff] at hr
    obtain ⟨hr1, hr2⟩ := hr
    by_cases hv : valL V l = 2
    · have HK := Lib.hid (show setOk V l = false by unfold setOk; rw [HR.out, hv]; rfl)
      rw [hv] at HV
      clear hv g2
      go_enter Try.func74, Try.ntmps74
      go_wp2_with (first | (go_at_call 86; refine H.out.mono ?_; rintro e w' ⟨rfl, rfl⟩) | (go_at_call 51; refine HV.out.mono ?_; rintro e w' ⟨rfl, rfl⟩))
      go_ret
      exact ⟨ret_bool HK.out.symm, by unfold setV; rw [HK.out]; exact HA.out, Only.refl _ _⟩
    · have HK := Lib.hid (show setOk V l = true by unfold setOk; rw [HR.out]; simp [hv])
      have hvb : (valL V l == 2) = false := by simp [hv]
      generalize valL V l = x at *
      have HS := Lib.hid (show setV V l = V.set (plc l) (if 0 < l then 1 else 2) by unfold setV; rw [HK.out]; rfl)
      have HN := Lib.hid (fun (y : Int) hy => HA.out.set (plc l) y hr2 (fun e => by omega) hy)
      have g1 := HC.out _ hr2
      by_cases hl : 0 < l
      · have hm := plc_pos hl
        rw [if_pos hl] at HS
        generalize plc l = m at *
        subst hm
        clear hv
        generalize V.getD m 0 = y at *
        go_enter Try.func74, Try.ntmps74
        go_wp2_with (first | (go_at_call 86; refine H.out.mono ?_; rintro e w' ⟨rfl, rfl⟩) | (go_at_call 51; refine HV.out.mono ?_; rintro e w' ⟨rfl, rfl⟩))
        go_ret
        exact ⟨ret_bool HK.out.symm, by rw [HS.out]; exact HN.out 1 (by simp), Only.setCell _ _ _ _⟩
      · have hl' : l < 0 := by
          have : l ≠ 0 := fun e => by subst e; rw [plc_zero] at hr1; omega
          omega
        have hm := plc_neg hl'
        rw [if_neg hl] at HS
        generalize plc l = m at *
        obtain rfl : l = -(m : Int) := by omega
        clear hm hv
        generalize V.getD m 0 = y at *
        go_enter Try.func74, Try.ntmps74
        go_wp2_with (first | (go_at_call 86; refine H.out.mono ?_; rintro e w' ⟨rfl, rfl⟩) | (go_at_call 51; refine HV.out.mono ?_; rintro e w' ⟨rfl, rfl⟩))
        go_ret
        exact ⟨ret_bool HK.out.symm, by rw [HS.out]; exact HN.out 2 (by simp), Only.setCell _ _ _ _⟩
  · have hr' : rightB V l = false := by simpa using hr
    have HK := Lib.hid (setOk_right hr')
    rw [hr'] at H
    clear hr hr' g2
    go_enter Try.func74, Try.ntmps74
    go_wp2_with (go_at_call 86; refine H.out.mono ?_; rintro e w' ⟨rfl, rfl⟩)
    go_ret
    exact ⟨ret_bool HK.out.symm, by unfold setV; rw [HK.out]; exact HA.out, Only.refl _ _⟩

def UnsetPost (w : World) (B : Nat) (v : Value) (p q : Nat) (V : List Int) (l : Int) (e : Ending) (w' : World) : Prop :=
  e = .returned (.tuple #[]) ∧ Asg w' B v p q (unsetV V l) ∧ Only q w w'

set_option maxHeartbeats 1000000 in
theorem unset_any {w : World} {B : Nat} {v : Value} {p q : Nat} {V : List Int} (h : Asg w B v p q V) (l : Int) (h1 : -9223372036854775807 ≤ l) (h2 : l ≤ 9223372036854775807) :
    Calls Try.prog 53 #[v, .int .i64 l] w (UnsetPost w B v p q V l) := by
  have H := Lib.hid (asgIs_any h l h1 h2)
  have hlen := h.vals.len
  have g0 := h.head
  have HC := Lib.hid h.cells
  have HA := Lib.hid h
  have g2 := h.free l.toNat
  obtain rfl := h.val
  clear h
  by_cases hl : 0 < l
  · have hm := plc_pos hl
    by_cases hr : plc l < V.length
    · have hb : rightB V l = true := by rw [rightB_iff]; omega
      rw [hb] at H
      clear hb
      generalize plc l = m at *
      subst hm
      have HS := Lib.hid (show unsetV V (m : Int) = V.set m 0 by unfold unsetV; rw [if_pos ⟨hl, by simpa using hr⟩]; simp)
      have HN := Lib.hid (HA.out.set m 0 hr (fun _ => rfl) (.inl rfl))
      have g1 := HC.out _ hr
      simp only [Int.toNat_natCast] at g2
      generalize V.getD m 0 = y at *
      go_enter Try.func53, Try.ntmps53
      go_wp2_with (go_at_call 86; refine H.out.mono ?_; rintro e w' ⟨rfl, rfl⟩)
      (try simp only [Exit.inBlock, Exit.then]); refine bodyPost_end (results_none rfl _ _ _) rfl ?_
      exact ⟨rfl, by rw [HS.out]; exact HN.out, Only.setCell _ _ _ _⟩
    · have hb : rightB V l = false := by rw [← Bool.not_eq_true, rightB_iff]; omega
      rw [hb] at H
      have HS := Lib.hid (show unsetV V l = V by unfold unsetV; rw [if_neg (by omega)])
      clear hb g2 hm
      go_enter Try.func53, Try.ntmps53
      go_wp2_with (go_at_call 86; refine H.out.mono ?_; rintro e w' ⟨rfl, rfl⟩)
      (try simp only [Exit.inBlock, Exit.then]); refine bodyPost_end (results_none rfl _ _ _) rfl ?_
      exact ⟨rfl, by rw [HS.out]; exact HA.out, Only.refl _ _⟩
  · have HS := Lib.hid (show unsetV V l = V by unfold unsetV; rw [if_neg (by omega)])
    clear g2
    go_enter Try.func53, Try.ntmps53
    go_wp2
    (try simp only [Exit.inBlock, Exit.then]); refine bodyPost_end (results_none rfl _ _ _) rfl ?_
    exact ⟨rfl, by rw [HS.out]; exact HA.out, Only.refl _ _⟩
end Go.Proofs.Ytmlgpnaikdpifaa
