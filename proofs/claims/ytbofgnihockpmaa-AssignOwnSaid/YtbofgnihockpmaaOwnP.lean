/- Plain facts for the law on what is set and unset: the law's own table beside the values. Holds for all lists; no conditions beyond those typed. -/
import Derived.Test.YtbofgnihockpmaaAsgProg
namespace Go.Proofs.Ytbofgnihockpmaa
open Go.RowKit

def encW (x : Int) : Int := if x = 1 then 1 else if x = -1 then 2 else 0
def sgnI (y : Int) : Int := if y < 0 then -1 else 1
structure OwnRel (V Wt : List Int) : Prop where
  lv : V.length = 13
  lw : Wt.length = 13
  three : ∀ i, Wt.getD i 0 = 0 ∨ Wt.getD i 0 = 1 ∨ Wt.getD i 0 = -1
  enc : ∀ i, V.getD i 0 = encW (Wt.getD i 0)

theorem ownRel_start : OwnRel (newV 12) (List.replicate 13 0) := by
  have e : newV 12 = List.replicate 13 0 := by decide
  rw [e]
  have hz : ∀ i, (List.replicate 13 (0 : Int)).getD i 0 = 0 := fun i => by simp only [List.getD, List.getElem?_replicate]; split <;> rfl
  exact ⟨by simp, by simp, fun i => .inl (hz i), fun i => by rw [hz]; rfl⟩
theorem own_val {V Wt : List Int} (h : OwnRel V Wt) (y : Int) (h1 : 1 ≤ plc y) (h2 : plc y ≤ 12) : valL V y = if 0 < y then encW (Wt.getD (plc y) 0) else encW (-(Wt.getD (plc y) 0)) := by
  rw [valL_at rfl h1 (by rw [h.lv]; omega), h.enc]
  split
  · rfl
  · rcases h.three (plc y) with e | e | e <;> rw [e] <;> rfl
theorem own_ok {V Wt : List Int} (h : OwnRel V Wt) (y : Int) (h1 : 1 ≤ plc y) (h2 : plc y ≤ 12) : setOk V y = !decide (Wt.getD (plc y) 0 = -(sgnI y)) := by
  have hr : rightB V y = true := by rw [rightB_iff, h.lv]; omega
  unfold setOk
  rw [hr, own_val h y h1 h2]
  unfold sgnI
  by_cases hy : 0 < y
  · rw [if_pos hy, if_neg (by omega)]
    rcases h.three (plc y) with e | e | e <;> rw [e] <;> rfl
  · have : y ≠ 0 := fun e => by subst e; rw [plc_zero] at h1; omega
    rw [if_neg hy, if_pos (by omega)]
    rcases h.three (plc y) with e | e | e <;> rw [e] <;> rfl
def ownW (Wt : List Int) (m : Nat) (n : Int) : List Int := if Wt.getD m 0 = 0 then Wt.set m n else Wt
theorem ownW_len (Wt : List Int) (m : Nat) (n : Int) : (ownW Wt m n).length = Wt.length := by unfold ownW; split <;> simp
theorem ownW_yes {Wt : List Int} {m : Nat} (h : Wt.getD m 0 = 0) (n : Int) : ownW Wt m n = Wt.set m n := if_pos h
theorem ownW_no {Wt : List Int} {m : Nat} (h : Wt.getD m 0 ≠ 0) (n : Int) : ownW Wt m n = Wt := if_neg h
theorem ownRel_setTo {V Wt : List Int} (h : OwnRel V Wt) (m : Nat) (x y : Int) (hx : x = 0 ∨ x = 1 ∨ x = -1) (hy : y = encW x) : OwnRel (V.set m y) (Wt.set m x) := by
  refine ⟨by simpa using h.lv, by simpa using h.lw, fun i => ?_, fun i => ?_⟩
  · rw [getD_set]; split
    · exact hx
    · exact h.three i
  · rw [getD_set, getD_set, h.lv, h.lw]; split
    · exact hy
    · exact h.enc i
theorem own_step {V Wt : List Int} (h : OwnRel V Wt) (y : Int) (h1 : 1 ≤ plc y) (h2 : plc y ≤ 12) : OwnRel (setV V y) (ownW Wt (plc y) (sgnI y)) := by
  unfold setV ownW
  rw [own_ok h y h1 h2]
  have hs : sgnI y = 1 ∨ sgnI y = -1 := by unfold sgnI; split <;> simp
  have he : (if 0 < y then (1 : Int) else 2) = encW (sgnI y) := by
    unfold sgnI
    by_cases hy : 0 < y
    · rw [if_pos hy, if_neg (by omega)]; rfl
    · have : y ≠ 0 := fun e => by subst e; rw [plc_zero] at h1; omega
      rw [if_neg hy, if_pos (by omega)]; rfl
  rw [he]
  by_cases e0 : Wt.getD (plc y) 0 = 0
  · rw [if_pos e0, if_pos (by rw [e0]; simp; omega)]
    exact ownRel_setTo h _ _ _ (by omega) rfl
  · rw [if_neg e0]
    split
    · rename_i hh
      have hne : Wt.getD (plc y) 0 ≠ -(sgnI y) := by simpa using hh
      have e1 : Wt.getD (plc y) 0 = sgnI y := by
        have := h.three (plc y); omega
      have hw : Wt.set (plc y) (sgnI y) = Wt := by
        refine getD_ext (by simp) fun j _ => ?_
        rw [getD_set]; split
        · rename_i hj; rw [← hj.1, e1]
        · rfl
      have := ownRel_setTo h (plc y) (sgnI y) _ (by omega) rfl
      rwa [hw] at this
    · exact h
theorem own_unset {V Wt : List Int} (h : OwnRel V Wt) (m : Nat) (h1 : 1 ≤ m) (h2 : m ≤ 12) : OwnRel (unsetV V (m : Int)) (Wt.set m 0) := by
  unfold unsetV
  rw [if_pos ⟨by omega, by rw [h.lv]; simp; omega⟩, Int.toNat_natCast]
  exact ownRel_setTo h m 0 0 (.inl rfl) rfl
theorem own_ends {V Wt : List Int} (h : OwnRel V Wt) (v : Nat) (h1 : 1 ≤ v) (h2 : v ≤ 12) : valL V (v : Int) = encW (Wt.getD v 0) ∧ valL V (-(v : Int)) = encW (-(Wt.getD v 0)) := by
  have e1 : plc (v : Int) = v := by have := plc_pos (l := (v : Int)) (by omega); omega
  have e2 : plc (-(v : Int)) = v := by have := plc_neg (l := -(v : Int)) (by omega); omega
  constructor
  · rw [own_val h _ (by omega) (by omega), if_pos (by omega), e1]
  · rw [own_val h _ (by omega) (by omega), if_neg (by omega), e2]
theorem own_out {V Wt : List Int} (h : OwnRel V Wt) : valL V 13 = 0 ∧ valL V 0 = 0 ∧ setOk V 13 = false ∧ setOk V 0 = false := by
  have r1 : rightB V 13 = false := by rw [← Bool.not_eq_true, rightB_iff, h.lv]; have := plc_pos (l := 13) (by omega); omega
  have r2 : rightB V 0 = false := by rw [← Bool.not_eq_true, rightB_iff, plc_zero]; omega
  exact ⟨valL_not r1, valL_not r2, setOk_right r1, setOk_right r2⟩
end Go.Proofs.Ytbofgnihockpmaa
