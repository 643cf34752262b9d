/- The contract of assign.Assign.Clause: what a clause is worth and the one literal of it that is not false. Conditions: the literals lie strictly inside the 64 bits. -/
import Derived.Test.YtbofgnihockpmaaAsgProg
namespace Go.Proofs.Ytbofgnihockpmaa
open Go.RowKit

/-- One literal more. -/
def cstep (V : List Int) (s : Int × Int × Bool) (l : Int) : Int × Int × Bool :=
  if valL V l = 0 then (0, l, s.2.2 || (decide (s.1 = 0) && !decide (l = s.2.1))) else s
def cfold (V : List Int) (c : List Int) : Int × Int × Bool := c.foldl (cstep V) (2, 0, false)
def hasTrue (V : List Int) (c : List Int) : Bool := c.any fun l => decide (valL V l = 1)
def clauseL (V : List Int) (c : List Int) : Int × Int :=
  if hasTrue V c = true then (1, 0) else ((cfold V c).1, if (cfold V c).2.2 = true then 0 else (cfold V c).2.1)
theorem cfold_succ (V c : List Int) (k : Nat) (h : k < c.length) : cfold V (c.take (k + 1)) = cstep V (cfold V (c.take k)) (c.getD k 0) := by
  unfold cfold; rw [take_snoc c k h, List.foldl_append]; rfl
theorem hasTrue_succ (V c : List Int) (k : Nat) (h : k < c.length) : hasTrue V (c.take (k + 1)) = (hasTrue V (c.take k) || decide (valL V (c.getD k 0) = 1)) := by
  unfold hasTrue; rw [take_snoc c k h, List.any_append]; simp
theorem hasTrue_get (V c : List Int) (k : Nat) (h : k < c.length) (hv : valL V (c.getD k 0) = 1) : hasTrue V c = true := by
  unfold hasTrue; rw [List.any_eq_true]
  exact ⟨c[k], List.getElem_mem h, by simpa [List.getD, h] using hv⟩

set_option maxHeartbeats 2000000 in
theorem clause_any {w : World} {B : Nat} {v : Value} {p q : Nat} {V : List Int} (h : Asg w B v p q V) (u : Value) (xs : List Int) (hu : Row w u xs) (hxs : InW xs) :
    Calls Try.prog 17 #[v, u] w fun e w' => e = .returned (.tuple #[.int .i64 (clauseL V xs).1, .int .i64 (clauseL V xs).2]) ∧ w = w' := by
  obtain ⟨a, c, rfl, hxc, hcm, hx⟩ := hu
  unfold maxLen at hcm
  have HX := Lib.hid hx; clear hx
  have HW := Lib.hid hxs; clear hxs
  have HVA := Lib.hid (fun l h1 h2 => value_any h l h1 h2)
  have HT3 := Lib.hid h.vals.val
  obtain rfl := h.val
  clear h
  generalize hN : xs.length = n at *
  have HN := Lib.hid hN; clear hN
  go_enter Try.func17, Try.ntmps17
  go_wp2_with fail
  go_loop [6, 7, 8, 10, 13] (fun val one more _ i => ∃ (k : Nat) (x o : Int) (m : Bool), k ≤ n ∧ val = .int .i64 x ∧ one = .int .i64 o ∧ more = .bool m ∧ i = .int .i64 k ∧ Hid (cfold V (xs.take k) = (x, o, m)) ∧ Hid (hasTrue V (xs.take k) = false)) (fun _ _ _ _ i => n - (intOf i).toNat)
  case atStart => exact ⟨0, 2, 0, false, Nat.zero_le _, rfl, rfl, rfl, rfl, rfl, rfl⟩
  case round =>
    obtain ⟨k, x, o, m, hk, rfl, rfl, rfl, rfl, HF, HQ⟩ := hrel
    by_cases hlt : k < n
    · obtain ⟨b, off, ha, hb, hc⟩ := HX.out.resolve_left (by omega)
      subst ha
      have g1 := hc k hlt
      clear hc hb
      have hkl : k < xs.length := by rw [HN.out]; exact hlt
      have hyb := HW.out.get k
      have HS := Lib.hid (cfold_succ V xs k hkl)
      have HU := Lib.hid (hasTrue_succ V xs k hkl)
      have HG := Lib.hid (hasTrue_get V xs k hkl)
      generalize xs.getD k 0 = y at *
      obtain ⟨hy1, hy2⟩ := hyb
      have H := Lib.hid (HVA.out y hy1 hy2)
      have HST : Hid (cstep V (x, o, m) y = if valL V y = 0 then (0, y, m || (decide (x = 0) && !decide (y = o))) else (x, o, m)) := rfl
      rcases HT3.out y with hv | hv | hv
      · rw [hv] at H HST
        have HU' := Lib.hid (show hasTrue V (xs.take (k + 1)) = false by rw [HU.out, HQ.out, hv]; rfl)
        clear hv HG HU
        cases m with
        | true =>
          go_wp2_with (go_at_call 19; refine H.out.mono ?_; rintro e w' ⟨rfl, rfl⟩)
          go_round
          case rel => exact ⟨k + 1, 0, y, true, by omega, rfl, rfl, rfl, by go_num, by unfold Hid; rw [HS.out, HF.out, HST.out]; simp, HU'.out⟩
          case measure => simp [intOf]; omega
        | false =>
          by_cases hx0 : x = 0
          · subst hx0
            by_cases hyo : y = o
            · subst hyo
              go_wp2_with (go_at_call 19; refine H.out.mono ?_; rintro e w' ⟨rfl, rfl⟩)
              go_round
              case rel => exact ⟨k + 1, 0, y, false, by omega, rfl, rfl, rfl, by go_num, by unfold Hid; rw [HS.out, HF.out, HST.out]; simp, HU'.out⟩
              case measure => simp [intOf]; omega
            · have hyob : (y != o) = true := by simp [hyo]
              go_wp2_with (go_at_call 19; refine H.out.mono ?_; rintro e w' ⟨rfl, rfl⟩)
              go_round
              case rel => exact ⟨k + 1, 0, y, true, by omega, rfl, rfl, rfl, by go_num, by unfold Hid; rw [HS.out, HF.out, HST.out]; simp [hyo], HU'.out⟩
              case measure => simp [intOf]; omega
          · have hx0b : (x == 0) = false := by simp [hx0]
            go_wp2_with (go_at_call 19; refine H.out.mono ?_; rintro e w' ⟨rfl, rfl⟩)
            go_round
            case rel => exact ⟨k + 1, 0, y, false, by omega, rfl, rfl, rfl, by go_num, by unfold Hid; rw [HS.out, HF.out, HST.out]; simp [hx0], HU'.out⟩
            case measure => simp [intOf]; omega
      · have HR := Lib.hid (show clauseL V xs = (1, 0) by unfold clauseL; rw [if_pos (HG.out hv)])
        rw [hv] at H
        clear hv HG HU HST HS
        go_wp2_with (go_at_call 19; refine H.out.mono ?_; rintro e w' ⟨rfl, rfl⟩)
        go_ret2
        exact ⟨by rw [HR.out]; rfl, rfl⟩
      · rw [hv] at H HST
        have HU' := Lib.hid (show hasTrue V (xs.take (k + 1)) = false by rw [HU.out, HQ.out, hv]; rfl)
        clear hv HG HU
        go_wp2_with (go_at_call 19; refine H.out.mono ?_; rintro e w' ⟨rfl, rfl⟩)
        go_round
        case rel => exact ⟨k + 1, x, o, m, by omega, rfl, rfl, rfl, by go_num, by unfold Hid; rw [HS.out, HF.out, HST.out]; simp, HU'.out⟩
        case measure => simp [intOf]; omega
    · have hkn : k = n := by omega
      have hl : xs.take k = xs := List.take_of_length_le (by rw [HN.out]; omega)
      have HR := Lib.hid (show clauseL V xs = (x, if m = true then 0 else o) by
        have h1 := HF.out
        have h2 := HQ.out
        rw [hl] at h1 h2
        unfold clauseL; rw [h2, h1]; rfl)
      clear hl hlt HF HQ
      subst hkn
      cases m with
      | true =>
        go_wp2
        go_ret2
        exact ⟨by rw [HR.out]; rfl, rfl⟩
      | false =>
        go_wp2
        go_ret2
        exact ⟨by rw [HR.out]; rfl, rfl⟩
end Go.Proofs.Ytbofgnihockpmaa
