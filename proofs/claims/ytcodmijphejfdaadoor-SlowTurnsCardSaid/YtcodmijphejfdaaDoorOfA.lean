/- Contracts of assign.holds, assign.Of, skolemref1.Of. Conditions: the literals lie strictly inside the 64 bits. -/
import Derived.Test.YtcodmijphejfdaaDoorSlwP
import Derived.Test.YtcodmijphejfdaaDoorCheckP
import Derived.Test.YtcodmijphejfdaaDoorSmall
import Derived.Test.YtcodmijphejfdaaDoorGen
import Derived.Test.YtcodmijphejfdaaDoorRename
namespace Go.Proofs.YtcodmijphejfdaaDoor
open Go.RowKit

/-- The value v is a slice of bools that reads as bs. -/
abbrev BoolRow (w : World) (v : Value) (bs : List Bool) : Prop := RowG Value.bool false w v bs
theorem any_snoc (f : Int → Bool) (xs : List Int) (k : Nat) (h : k < xs.length) : (xs.take (k + 1)).any f = ((xs.take k).any f || f (xs.getD k 0)) := by
  rw [take_snoc xs k h, List.any_append]; simp
theorem any_true (f : Int → Bool) (xs : List Int) (k : Nat) (h : k < xs.length) (hf : f (xs.getD k 0) = true) : xs.any f = true := by
  rw [List.any_eq_true]
  exact ⟨xs[k], List.getElem_mem h, by simpa [List.getD, h] using hf⟩


set_option maxRecDepth 4000 in
set_option maxHeartbeats 2000000 in
theorem holds_any (u m : Value) (xs : List Int) (bs : List Bool) (w : World) (hu : Row w u xs) (hm : BoolRow w m bs) (hxs : InW xs) :
    Calls Tryd.prog 79 #[u, m] w fun e w' => e = .returned (.bool (ofC bs xs)) ∧ w = w' := by
  obtain ⟨a, c, rfl, hxc, hcm, hx⟩ := hu
  obtain ⟨a', c', rfl, hyc, hcm', hy⟩ := hm
  unfold maxLen at hcm hcm'
  have HX := Lib.hid hx; clear hx
  have HY := Lib.hid hy; clear hy
  have HW := Lib.hid hxs; clear hxs
  generalize hN : xs.length = n at *
  have HN := Lib.hid hN; clear hN
  go_enter Tryd.func79, Tryd.ntmps79
  go_wp2_with fail
  go_loop [6, 9] (fun _ i => ∃ k : Nat, k ≤ n ∧ i = .int .i64 k ∧ Hid ((xs.take k).any (holdsL bs) = false)) (fun _ i => n - (intOf i).toNat)
  case atStart => exact ⟨0, Nat.zero_le _, rfl, by simp [Hid]⟩
  case round =>
    obtain ⟨k, hk, rfl, HQ⟩ := hrel
    by_cases hlt : k < n
    · obtain ⟨b, off, ha, hb, hc⟩ := HX.out.resolve_left (by omega)
      subst ha
      have g1 := hc k hlt
      clear hc hb
      have hkl : k < xs.length := by rw [HN.out]; exact hlt
      have hyb := HW.out.get k
      have HU := Lib.hid (any_snoc (holdsL bs) xs k hkl)
      have HG := Lib.hid (any_true (holdsL bs) xs k hkl)
      generalize xs.getD k 0 = y at *
      obtain ⟨hy1, hy2⟩ := hyb
      have HI := Lib.hid (fun W => is_any y ((bs.length : Int) - 1) W hy1 hy2)
      have HV := Lib.hid (fun W => var_any y W hy1 hy2)
      have HH := Lib.hid (show holdsL bs y = ((decide (1 ≤ plc y) && decide (plc y < bs.length)) && (bs.getD (plc y) false == decide (0 < y))) from rfl)
      rw [← plc_absI y] at HI HV
      generalize plc y = m at *
      by_cases hr : 1 ≤ m ∧ m < bs.length
      · obtain ⟨hr1, hr2⟩ := hr
        have hb1 : (decide (1 ≤ (m : Int)) && decide ((m : Int) ≤ (bs.length : Int) - 1)) = true := by simp; omega
        have hb2 : (decide (1 ≤ m) && decide (m < bs.length)) = true := by simp; omega
        rw [hb1] at HI
        rw [hb2] at HH
        obtain ⟨b2, off2, ha2, _, hc2⟩ := HY.out.resolve_left (by omega)
        subst ha2
        have g2 := hc2 m hr2
        clear hc2 hb1 hb2
        generalize bs.getD m false = t at *
        generalize bs.length = r at *
        by_cases hp : 0 < y
        · have hpd : decide (0 < y) = true := by simp [hp]
          rw [hpd] at HH
          cases t with
          | true =>
            have HR := Lib.hid (show ofC bs xs = true from HG.out (by rw [HH.out]; rfl))
            clear HG HU HQ
            go_wp2_with (first | (go_at_call 63; refine (HI.out _).mono ?_; rintro e w' ⟨rfl, rfl⟩) | (go_at_call 33; refine (HV.out _).mono ?_; rintro e w' ⟨rfl, rfl⟩))
            go_ret
            exact ⟨ret_bool HR.out.symm, rfl⟩
          | false =>
            have HU' := Lib.hid (show (xs.take (k + 1)).any (holdsL bs) = false by rw [HU.out, HQ.out, HH.out]; rfl)
            clear HG HU
            go_wp2_with (first | (go_at_call 63; refine (HI.out _).mono ?_; rintro e w' ⟨rfl, rfl⟩) | (go_at_call 33; refine (HV.out _).mono ?_; rintro e w' ⟨rfl, rfl⟩))
            go_round
            case rel => exact ⟨k + 1, by omega, by go_num, HU'.out⟩
            case measure => simp [intOf]; omega
        · have hpd : decide (0 < y) = false := by simp; omega
          rw [hpd] at HH
          cases t with
          | false =>
            have HR := Lib.hid (show ofC bs xs = true from HG.out (by rw [HH.out]; rfl))
            clear HG HU HQ
            go_wp2_with (first | (go_at_call 63; refine (HI.out _).mono ?_; rintro e w' ⟨rfl, rfl⟩) | (go_at_call 33; refine (HV.out _).mono ?_; rintro e w' ⟨rfl, rfl⟩))
            go_ret
            exact ⟨ret_bool HR.out.symm, rfl⟩
          | true =>
            have HU' := Lib.hid (show (xs.take (k + 1)).any (holdsL bs) = false by rw [HU.out, HQ.out, HH.out]; rfl)
            clear HG HU
            go_wp2_with (first | (go_at_call 63; refine (HI.out _).mono ?_; rintro e w' ⟨rfl, rfl⟩) | (go_at_call 33; refine (HV.out _).mono ?_; rintro e w' ⟨rfl, rfl⟩))
            go_round
            case rel => exact ⟨k + 1, by omega, by go_num, HU'.out⟩
            case measure => simp [intOf]; omega
      · have hb1 : (decide (1 ≤ (m : Int)) && decide ((m : Int) ≤ (bs.length : Int) - 1)) = false := by simp; omega
        have hb2 : (decide (1 ≤ m) && decide (m < bs.length)) = false := by simp; omega
        rw [hb1] at HI
        rw [hb2] at HH
        have HU' := Lib.hid (show (xs.take (k + 1)).any (holdsL bs) = false by rw [HU.out, HQ.out, HH.out]; rfl)
        clear hb1 hb2 HG HU hr
        generalize bs.length = r at *
        go_wp2_with (first | (go_at_call 63; refine (HI.out _).mono ?_; rintro e w' ⟨rfl, rfl⟩) | (go_at_call 33; refine (HV.out _).mono ?_; rintro e w' ⟨rfl, rfl⟩))
        go_round
        case rel => exact ⟨k + 1, by omega, by go_num, HU'.out⟩
        case measure => simp [intOf]; omega
    · have hkn : k = n := by omega
      have HA := Lib.hid (show ofC bs xs = false by have := HQ.out; rwa [hkn, List.take_of_length_le (by rw [HN.out]; exact Nat.le_refl _)] at this)
      clear hlt HQ
      go_wp2
      go_ret
      exact ⟨ret_bool HA.out.symm, rfl⟩

theorem ofL_succ (cs : List (List Int)) (bs : List Bool) (k : Nat) (h : k < cs.length) : ofL (cs.take (k + 1)) bs = (ofL (cs.take k) bs && ofC bs (cs.getD k [])) := by
  unfold ofL
  rw [List.take_succ_eq_append_getElem h, List.all_append]; simp [List.getD, h]
theorem ofL_no (cs : List (List Int)) (bs : List Bool) (k : Nat) (h : k < cs.length) (hf : ofC bs (cs.getD k []) = false) : ofL cs bs = false := by
  unfold ofL
  rw [List.all_eq_false]
  exact ⟨cs[k], List.getElem_mem h, by rw [show cs[k] = cs.getD k [] by simp [List.getD, h], hf]; simp⟩
theorem row_inW {xss : List (List Int)} (h : ∀ xs ∈ xss, InW xs) (k : Nat) : InW (xss.getD k []) := by
  by_cases hk : k < xss.length
  · have := h _ (List.getElem_mem hk); simpa [List.getD, hk] using this
  · intro x hx; simp [List.getD, show xss.length ≤ k by omega] at hx

set_option maxRecDepth 4000 in
set_option maxHeartbeats 2000000 in
theorem of_any (a : Option Addr) (cap : Nat) (xss : List (List Int)) (m : Value) (bs : List Bool) (w : World) (hr : RowsAt w a cap xss) (hm : BoolRow w m bs) (hxs : ∀ xs ∈ xss, InW xs) :
    Calls Tryd.prog 58 #[.slice a xss.length cap, m] w fun e w' => e = .returned (.bool (ofL xss bs)) ∧ w = w' := by
  obtain ⟨hc1, hc2, hr⟩ := hr
  unfold maxLen at hc2
  have HR := Lib.hid hr; clear hr
  have HM := Lib.hid hm
  have HW := Lib.hid hxs; clear hxs
  obtain ⟨a2, c2, rfl, _, _, _⟩ := hm
  generalize hN : xss.length = n at *
  have HN := Lib.hid hN; clear hN
  go_enter Tryd.func58, Tryd.ntmps58
  go_wp2_with fail
  go_loop [6, 9] (fun _ i => ∃ k : Nat, k ≤ n ∧ i = .int .i64 k ∧ Hid (ofL (xss.take k) bs = true)) (fun _ i => n - (intOf i).toNat)
  case atStart => exact ⟨0, Nat.zero_le _, rfl, by simp [Hid, ofL]⟩
  case round =>
    obtain ⟨k, hk, rfl, HQ⟩ := hrel
    by_cases hlt : k < n
    · obtain ⟨b, off, ha, hb, hc⟩ := HR.out.resolve_left (by omega)
      subst ha
      obtain ⟨v, g1, hv⟩ := hc k hlt
      clear hc
      have hkl : k < xss.length := by rw [HN.out]; exact hlt
      have HT := Lib.hid (ofL_succ xss bs k hkl)
      have HF := Lib.hid (ofL_no xss bs k hkl)
      have HNE := Lib.hid (holds_any v _ _ bs w hv HM.out (row_inW HW.out k))
      generalize xss.getD k [] = ys at *
      obtain ⟨av, cv, rfl, _⟩ := hv
      cases hy : ofC bs ys with
      | false =>
        rw [hy] at HNE
        have HF' := Lib.hid (HF.out hy)
        clear HF hy HT
        go_wp2_with (go_at_call 79; refine HNE.out.mono ?_; rintro e w' ⟨rfl, rfl⟩)
        go_ret
        exact ⟨ret_bool HF'.out.symm, rfl⟩
      | true =>
        rw [hy] at HNE
        have HT' := Lib.hid (show ofL (xss.take (k + 1)) bs = true by rw [HT.out, HQ.out, hy]; rfl)
        clear HF hy HT
        go_wp2_with (go_at_call 79; refine HNE.out.mono ?_; rintro e w' ⟨rfl, rfl⟩)
        go_round
        case rel => exact ⟨k + 1, by omega, by go_num, HT'.out⟩
        case measure => simp [intOf]; omega
    · have hkn : k = n := by omega
      have HA := Lib.hid (show ofL xss bs = true by have := HQ.out; rwa [hkn, List.take_of_length_le (by rw [HN.out]; exact Nat.le_refl _)] at this)
      clear hlt HQ
      go_wp2
      go_ret
      exact ⟨ret_bool HA.out.symm, rfl⟩

end Go.Proofs.YtcodmijphejfdaaDoor
