/- Contracts of skolemref1.Assign's Clause, All, Known and of skolemref1.Of. Conditions: the literals lie strictly inside the 64 bits and are not 0. -/
import Derived.Test.YtmlgpnaikdpifaaAsgAll
import Derived.Test.YtmlgpnaikdpifaaAsgRef
import Derived.Deep.DeepCutAuto
import Derived.Deep.LoopGhost
namespace Go.Proofs.Ytmlgpnaikdpifaa
open Go.RowKit

/-- The count of changes beside the fold. -/
def CRel (s : Int × Int × Bool) (o : Int) (m : Nat) : Prop := s.2.1 = o ∧ s.1 = (if m = 0 then 2 else 0) ∧ s.2.2 = decide (1 < m) ∧ (m = 0 → o = 0)
theorem cRel_step {V : List Int} {s : Int × Int × Bool} {o : Int} {m : Nat} (h : CRel s o m) (l : Int) (hl : l ≠ 0) (hv : valL V l = 0) : CRel (cstep V s l) l (if l = o then m else m + 1) := by
  obtain ⟨h1, h2, h3, h4⟩ := h
  unfold cstep
  rw [if_pos hv]
  refine ⟨rfl, ?_, ?_, ?_⟩
  · by_cases e : l = o
    · rw [if_pos e]
      have : m ≠ 0 := fun e0 => hl (by rw [e, h4 e0])
      rw [if_neg this]
    · rw [if_neg e, if_neg (by omega)]
  · show (s.2.2 || (decide (s.1 = 0) && !decide (l = s.2.1))) = _
    rw [h1, h2, h3]
    by_cases e : l = o
    · simp [e]
    · by_cases e0 : m = 0
      · subst e0; simp [e]
      · simp [e, e0]; omega
  · intro hz
    by_cases e : l = o
    · rw [if_pos e] at hz
      exact absurd (by rw [e, h4 hz]) hl
    · rw [if_neg e] at hz; omega
theorem cRel_same {V : List Int} {s : Int × Int × Bool} {o : Int} {m : Nat} (h : CRel s o m) (l : Int) (hv : valL V l ≠ 0) : CRel (cstep V s l) o m := by unfold cstep; rw [if_neg hv]; exact h
theorem cRel_end {V xs : List Int} {o : Int} {m : Nat} (h : CRel (cfold V xs) o m) (ht : hasTrue V xs = false) : clauseL V xs = if m = 0 then (2, 0) else if 1 < m then (0, 0) else (0, o) := by
  obtain ⟨h1, h2, h3, h4⟩ := h
  unfold clauseL
  rw [ht, h1, h2, h3]
  by_cases e0 : m = 0
  · subst e0; simp [h4 rfl]
  · by_cases e1 : 1 < m
    · simp [e0, e1]
    · simp [e0, e1]

theorem Row.drewN {w : World} {v : Value} {xs : List Int} (h : Row w v xs) (n : Nat) : Row (w.drewN n) v xs := h.keep (below_draws ⟨n, rfl⟩)

set_option maxRecDepth 4000 in
set_option maxHeartbeats 4000000 in
theorem refClause_any {w : World} {B : Nat} {v : Value} {p q : Nat} {V : List Int} (h : Asg w B v p q V) (u : Value) (xs : List Int) (hu : Row w u xs) (hxs : InW xs) (hnz : ∀ x ∈ xs, x ≠ 0) :
    Calls Try.prog 72 #[v, u] w fun e w' => e = .returned (.tuple #[.int .i64 (clauseL V xs).1, .int .i64 (clauseL V xs).2]) ∧ ∃ t, w' = w.drewN t := by
  obtain ⟨a, c, rfl, hxc, hcm, hx⟩ := hu
  unfold maxLen at hcm
  have HX := Lib.hid hx; clear hx
  have HW := Lib.hid hxs; clear hxs
  have HVA := Lib.hid (fun t l h1 h2 => refValue_any (h.drewN t) l h1 h2)
  have HT3 := Lib.hid h.vals.val
  have HNZ := Lib.hid (show ∀ k, k < xs.length → xs.getD k 0 ≠ 0 from fun k hk => by
    have := hnz _ (List.getElem_mem hk); simpa [List.getD, hk] using this)
  clear hnz
  obtain rfl := h.val
  clear h
  generalize hN : xs.length = n at *
  have HN := Lib.hid hN; clear hN
  go_enter Try.func72, Try.ntmps72
  go_wp2_with fail
  go_loopw [6, 7, 8] (fun one many i wr => ∃ (k : Nat) (o : Int) (m t : Nat), k ≤ n ∧ one = .int .i64 o ∧ many = .int .i64 m ∧ i = .int .i64 k ∧ wr = w.drewN t ∧ m ≤ k ∧ Hid (CRel (cfold V (xs.take k)) o m) ∧ Hid (hasTrue V (xs.take k) = false)) (fun _ _ i _ => n - (intOf i).toNat)
  case atStart => exact ⟨0, 0, 0, 0, Nat.zero_le _, rfl, rfl, rfl, rfl, Nat.le_refl _, ⟨rfl, rfl, rfl, fun _ => rfl⟩, rfl⟩
  case round =>
    obtain ⟨k, o, m, t, hk, rfl, rfl, rfl, rfl, hm, HF, HQ⟩ := hrel
    by_cases hlt : k < n
    · obtain ⟨b, off, ha, hb, hc⟩ := HX.out.resolve_left (by omega)
      subst ha
      have g1 := hc k hlt
      clear hc hb
      have hkl : k < xs.length := by rw [HN.out]; exact hlt
      have hyb := HW.out.get k
      have hy0 := HNZ.out k hlt
      have HS := Lib.hid (cfold_succ V xs k hkl)
      have HU := Lib.hid (hasTrue_succ V xs k hkl)
      have HG := Lib.hid (hasTrue_get V xs k hkl)
      generalize xs.getD k 0 = y at *
      obtain ⟨hy1, hy2⟩ := hyb
      have H := Lib.hid (HVA.out t y hy1 hy2)
      rcases HT3.out y with hv | hv | hv
      · rw [hv] at H
        have HU' := Lib.hid (show hasTrue V (xs.take (k + 1)) = false by rw [HU.out, HQ.out, hv]; rfl)
        have HC' := Lib.hid (show CRel (cfold V (xs.take (k + 1))) y (if y = o then m else m + 1) by rw [HS.out]; exact cRel_step HF.out y hy0 hv)
        clear hv HG HU HS hy0
        by_cases hyo : y = o
        · subst hyo
          rw [if_pos rfl] at HC'
          go_wp2_with (go_at_call 91; refine H.out.mono ?_; rintro e w' ⟨rfl, tt, rfl⟩)
          go_roundw
          case rel => exact ⟨k + 1, y, m, _, by omega, rfl, rfl, by go_num, rfl, by omega, HC'.out, HU'.out⟩
          case measure => simp [intOf]; omega
        · have hyob : (y != o) = true := by simp [hyo]
          rw [if_neg hyo] at HC'
          go_wp2_with (go_at_call 91; refine H.out.mono ?_; rintro e w' ⟨rfl, tt, rfl⟩)
          go_roundw
          case rel => exact ⟨k + 1, y, m + 1, _, by omega, rfl, by go_num, by go_num, rfl, by omega, HC'.out, HU'.out⟩
          case measure => simp [intOf]; omega
      · have HR := Lib.hid (show clauseL V xs = (1, 0) by unfold clauseL; rw [if_pos (HG.out hv)])
        rw [hv] at H
        clear hv HG HU HS hy0
        go_wp2_with (go_at_call 91; refine H.out.mono ?_; rintro e w' ⟨rfl, tt, rfl⟩)
        go_ret2
        exact ⟨by rw [HR.out]; rfl, _, rfl⟩
      · rw [hv] at H
        have HU' := Lib.hid (show hasTrue V (xs.take (k + 1)) = false by rw [HU.out, HQ.out, hv]; rfl)
        have HC' := Lib.hid (show CRel (cfold V (xs.take (k + 1))) o m by rw [HS.out]; exact cRel_same HF.out y (by omega))
        clear hv HG HU HS hy0
        go_wp2_with (go_at_call 91; refine H.out.mono ?_; rintro e w' ⟨rfl, tt, rfl⟩)
        go_roundw
        case rel => exact ⟨k + 1, o, m, _, by omega, rfl, rfl, by go_num, rfl, by omega, HC'.out, HU'.out⟩
        case measure => simp [intOf]; omega
    · have hkn : k = n := by omega
      have hl : xs.take k = xs := List.take_of_length_le (by rw [HN.out]; omega)
      have HR := Lib.hid (show clauseL V xs = if m = 0 then (2, 0) else if 1 < m then (0, 0) else (0, o) by
        have h1 := HF.out
        have h2 := HQ.out
        rw [hl] at h1 h2
        exact cRel_end h1 h2)
      clear hl hlt HF HQ
      subst hkn
      by_cases e0 : m = 0
      · subst e0
        go_wp2
        go_ret2
        exact ⟨by rw [HR.out]; rfl, _, rfl⟩
      · have e0b : ((m : Int) == 0) = false := by simp; omega
        rw [if_neg e0] at HR
        by_cases e1 : 1 < m
        · rw [if_pos e1] at HR
          go_wp2
          go_ret2
          exact ⟨by rw [HR.out]; rfl, _, rfl⟩
        · rw [if_neg e1] at HR
          go_wp2
          go_ret2
          exact ⟨by rw [HR.out]; rfl, _, rfl⟩
end Go.Proofs.Ytmlgpnaikdpifaa
