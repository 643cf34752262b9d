/- What slow.Value, Wins and Sat tell of games without clauses, of a clause that is nobody's, of values that are too many. Conditions: the seven errors lie as 'Sents' says. · The law SlowLimits: true for whatever numbers. Conditions: the seven errors lie as 'Sents' says. -/
import Derived.Test.YtjpchjbpolcndaaDoorSlD
import Derived.Test.YtjpchjbpolcndaaDoorSlE
namespace Go.Proofs.YtjpchjbpolcndaaDoor
open Go.RowKit

def seqN (n : Nat) : List Int := (List.range n).map fun (i : Nat) => (i : Int) + 1
theorem seqN_len (n : Nat) : (seqN n).length = n := by simp [seqN]
theorem seqN_snoc (n : Nat) : seqN (n + 1) = seqN n ++ [(n : Int) + 1] := by unfold seqN; rw [List.range_succ, List.map_append]; rfl
theorem seqN_mem (n : Nat) (v : Int) (h : v ∈ seqN n) : 1 ≤ v ∧ v ≤ n := by
  unfold seqN at h
  obtain ⟨i, hi, rfl⟩ := List.mem_map.1 h
  have := List.mem_range.1 hi
  omega
/-- What is told of so many variables. -/
def limC (n : Nat) : Int := if 20 < n then 102 else 0
theorem limV (A : Nat → Addr) (n : Nat) (v : Value) (w : World) (hS : Sents w A) (hn : n ≤ 29) (hr : Row w v (seqN n)) :
    Calls Tryd.prog 13 #[.agg #[.bool false, v, .slice none 0 0, .slice none 0 0]] w fun e w' => ∃ b ev, e = .returned (.tuple #[.bool b, ev]) ∧ ErrAs w' ev (limC n) false 0 ∧ Below w.heap.size w w' := by
  have hb : ∀ v ∈ seqN n ++ [], -9223372036854775808 ≤ v ∧ v ≤ 9223372036854775807 := fun v hv => by rw [List.append_nil] at hv; have := seqN_mem n v hv; omega
  unfold limC
  by_cases h : 20 < n
  · rw [if_pos h]
    refine (value_bad A false v (.slice none 0 0) (seqN n) [] none 0 [] w hS.two hr (rowNil w) (rowsNil w) (by rw [seqN_len]; simp; omega) hb (by simp) (by simp) (by simp) (.inr (by rw [seqN_len]; simp; exact h))).mono ?_
    rintro e w' ⟨rfl, hw⟩
    exact ⟨_, _, rfl, errAs_sent (hS.keep hw) 1 (by omega), hw⟩
  · rw [if_neg h]
    refine (value_ok false v (.slice none 0 0) (seqN n) [] none 0 [] w hr (rowNil w) (rowsNil w) hb (by simp) (by simp) (by simp) (by simp [okM]) (by rw [seqN_len]; simp; omega)).mono ?_
    rintro e w' ⟨rfl, hw⟩
    exact ⟨_, _, rfl, errAs_nil w', hw⟩
theorem limW (A : Nat → Addr) (n : Nat) (v : Value) (w : World) (hS : Sents w A) (hn : n ≤ 29) (hr : Row w v (seqN n)) :
    Calls Tryd.prog 15 #[.agg #[.bool false, .slice none 0 0, v, .slice none 0 0], .slice none 0 0] w fun e w' => ∃ b ev, e = .returned (.tuple #[.bool b, ev]) ∧ ErrAs w' ev (limC n) false 0 ∧ Below w.heap.size w w' := by
  have hb : ∀ v ∈ [] ++ seqN n, -9223372036854775808 ≤ v ∧ v ≤ 9223372036854775807 := fun v hv => by rw [List.nil_append] at hv; have := seqN_mem n v hv; omega
  unfold limC
  by_cases h : 20 < n
  · rw [if_pos h]
    refine (wins_bad A false (.slice none 0 0) v [] (seqN n) none 0 [] (.slice none 0 0) [] w (RowG.nil _ _ _) hS.two (rowNil w) hr (rowsNil w) (by rw [seqN_len]; simp; omega) hb (by simp) (by simp) (by simp) (.inr (.inr (by rw [seqN_len]; exact h)))).mono ?_
    rintro e w' ⟨rfl, hw⟩
    exact ⟨_, _, rfl, errAs_sent (hS.keep hw) 1 (by omega), hw⟩
  · rw [if_neg h]
    refine (wins_ok false (.slice none 0 0) v [] (seqN n) none 0 [] (.slice none 0 0) [] w (rowNil w) hr (rowsNil w) (RowG.nil _ _ _) hb (by simp) (by simp) (by simp) (by simp [okM]) rfl (by simp) (by rw [seqN_len]; omega)).mono ?_
    rintro e w' ⟨rfl, hw⟩
    exact ⟨_, _, rfl, errAs_nil w', hw⟩
theorem limS (A : Nat → Addr) (n : Nat) (w : World) (hS : Sents w A) (hn : n ≤ 29) :
    Calls Tryd.prog 17 #[.agg #[.int .i64 (n : Int), .slice none 0 0]] w fun e w' => ∃ u b ev, e = .returned (.tuple #[u, .bool b, ev]) ∧ ErrAs w' ev (limC n) false 0 ∧ Below w.heap.size w w' := by
  have hm : ¬ tooMuch (n : Int) [] := by unfold tooMuch sumTo; simp; omega
  have hg : allIs (n : Int) [] := fun xs hx => by simp at hx
  unfold limC
  by_cases h : 20 < n
  · rw [if_pos h]
    refine (sat_limit A n none 0 [] w hS.two (rowsNil w) (by simp) (by simp) hg hm h (by omega)).mono ?_
    rintro e w' ⟨rfl, hw⟩
    exact ⟨_, _, _, rfl, errAs_sent (hS.keep hw) 1 (by omega), hw⟩
  · rw [if_neg h]
    refine (sat_ok A n none 0 [] w hS.two (rowsNil w) (by simp) (by simp) (by simp) hg hm (by omega)).mono ?_
    rintro e w' ⟨⟨u, rfl, _⟩, hw⟩
    exact ⟨_, _, _, rfl, errAs_nil w', hw⟩
theorem limR (A : Nat → Addr) (a : Option Addr) (w : World) (hS : Sents w A) (hr : RowsAt w a 1 [[1]]) :
    Calls Tryd.prog 13 #[.agg #[.bool false, .slice none 0 0, .slice none 0 0, .slice a 1 1]] w fun e w' => ∃ b ev, e = .returned (.tuple #[.bool b, ev]) ∧ ErrAs w' ev 104 false 0 ∧ Below w.heap.size w w' := by
  refine (value_bad A false (.slice none 0 0) (.slice none 0 0) [] [] a 1 [[1]] w hS.two (rowNil w) (rowNil w) hr (by simp) (by simp) (by simp) (by simp) (by simp) (.inl (by decide))).mono ?_
  rintro e w' ⟨rfl, hw⟩
  exact ⟨_, _, rfl, errAs_sent (hS.keep hw) 3 (by omega), hw⟩
theorem limM (A : Nat → Addr) (v : Value) (kn : List Bool) (w : World) (hS : Sents w A) (hk : BoolRow w v kn) (h1 : 1 ≤ kn.length) :
    Calls Tryd.prog 15 #[.agg #[.bool false, .slice none 0 0, .slice none 0 0, .slice none 0 0], v] w fun e w' => ∃ b ev, e = .returned (.tuple #[.bool b, ev]) ∧ ErrAs w' ev 104 false 0 ∧ Below w.heap.size w w' := by
  have hne : (kn.length == List.length ([] : List Int)) = false := by simp; intro e; subst e; simp at h1
  refine (wins_bad A false (.slice none 0 0) (.slice none 0 0) [] [] none 0 [] v kn w hk hS.two (rowNil w) (rowNil w) (rowsNil w) (by simp) (by simp) (by simp) (by simp) (by simp) (.inr (.inl (by show kn.length ≠ 0; omega)))).mono ?_
  rintro e w' ⟨rfl, hw⟩
  rw [hne, Bool.and_false]
  exact ⟨_, _, rfl, errAs_sent (hS.keep hw) 3 (by omega), hw⟩
end Go.Proofs.YtjpchjbpolcndaaDoor

namespace Go.Proofs.YtjpchjbpolcndaaDoor
open Go.RowKit

set_option maxRecDepth 8000 in
set_option maxHeartbeats 4000000 in
theorem lawLim_any (A : Nat → Addr) (x y : Int) (w : World) (hS : Sents w A) :
    Calls Tryd.prog 5 #[.int .i64 x, .int .i64 y] w fun e w' => e = .returned (.bool true) ∧ Below w.heap.size w w' := by
  have HF := Lib.hid (fun W => first7_any W)
  have h30a := Int.tmod_lt_of_pos x (show (0 : Int) < 30 by omega)
  have h30b := Int.lt_tmod_of_pos x (show (0 : Int) < 30 by omega)
  have h5a := Int.tmod_lt_of_pos y (show (0 : Int) < 5 by omega)
  have h5b := Int.lt_tmod_of_pos y (show (0 : Int) < 5 by omega)
  obtain ⟨n, hn, hn30⟩ : ∃ n : Nat, (x.tmod 30 + 30) % 30 = (n : Int) ∧ n < 30 := ⟨((x.tmod 30 + 30) % 30).toNat, by omega, by omega⟩
  obtain ⟨q, hq, hq5⟩ : ∃ q : Nat, (y.tmod 5 + 5) % 5 = (q : Int) ∧ q < 5 := ⟨((y.tmod 5 + 5) % 5).toNat, by omega, by omega⟩
  have HV := Lib.hid (fun W v (hW : Below w.heap.size w W) (hr : Row W v (seqN n)) => limV A n v W (hS.keep hW) (by omega) hr)
  have HW := Lib.hid (fun W v (hW : Below w.heap.size w W) (hr : Row W v (seqN n)) => limW A n v W (hS.keep hW) (by omega) hr)
  have HT := Lib.hid (fun W (hW : Below w.heap.size w W) => limS A n W (hS.keep hW) (by omega))
  have HR := Lib.hid (fun W a (hW : Below w.heap.size w W) (hr : RowsAt W a 1 [[1]]) => limR A a W (hS.keep hW) hr)
  have HR1 : Hid (∀ W : World, RowsAt ((W.alloc (.cells #[.int .i64 1] 3)).alloc (.cells #[.slice (some ⟨W.heap.size, 0, none⟩) 1 1] 22)) (some ⟨W.heap.size + 1, 0, none⟩) 1 [[1]]) := fun W => by
    have hA : Below (W.alloc (.cells #[.int .i64 1] 3)).heap.size (W.alloc (.cells #[.int .i64 1] 3)) ((W.alloc (.cells #[.int .i64 1] 3)).alloc (.cells #[.slice (some ⟨W.heap.size, 0, none⟩) 1 1] 22)) := (Below.refl _ _).alloc (Nat.le_refl _) _
    refine ⟨Nat.le_refl _, by unfold maxLen; omega, .inr ⟨W.heap.size + 1, 0, rfl, by simp, fun i hi => ?_⟩⟩
    have hi0 : i = 0 := by simpa using hi
    subst hi0
    refine ⟨_, World.cell?_alloc_at _ _ _ _ (by simp), ⟨_, _, rfl, Nat.le_refl _, by unfold maxLen; simp, .inr ⟨W.heap.size, 0, rfl, by simp; omega, fun j hj => ?_⟩⟩⟩
    have hj0 : j = 0 := by simpa using hj
    subst hj0
    exact (hA.cell (p := ⟨W.heap.size, 0, none⟩) (by simp)).trans (World.cell?_alloc_at _ _ _ _ (by simp))
  have HM := Lib.hid (fun W v kn (hW : Below w.heap.size w W) (hk : BoolRow W v kn) (h1 : 1 ≤ kn.length) => limM A v kn W (hS.keep hW) hk h1)
  have HIS := Lib.hid (fun ev c W (h : ErrAs W ev c false 0) => isErr_any ev c W h)
  have HSN := Lib.hid (fun t => seqN_snoc t)
  have HSL := Lib.hid (fun t => seqN_len t)
  clear hS
  go_enter Tryd.func5, Tryd.ntmps5
  go_wp2_with (go_at_call 10; refine (HF.out _).mono ?_; rintro e w1 ⟨rfl, hb1⟩)
  rw [hn]
  clear hn
  have HB1 := Lib.hid hb1
  have hs1 := hb1.size
  go_loopw [6, 7] (fun l v wr => ∃ t : Nat, t ≤ n ∧ v = .int .i64 ((t : Int) + 1) ∧ wr.ownsRow w.heap.size 3 1 l t ((seqN t).map (Value.int .i64)) ∧ Below w.heap.size w wr) (fun _ v _ => n + 1 - (intOf v).toNat)
  case atStart => exact ⟨0, Nat.zero_le _, rfl, ⟨rfl, .inl ⟨rfl, rfl⟩⟩, hb1⟩
  case round =>
    obtain ⟨t, ht, rfl, hown, hbr⟩ := hrel
    clear hb1
    have hsr := hbr.size
    have HBR := Lib.hid hbr
    obtain ⟨al, cl, rfl⟩ := own_shape3 hown
    by_cases hlt : t < n
    · have hd1 : decide ((t : Int) + 1 ≤ (n : Int)) = true := decide_eq_true (by omega)
      clear hbr
      go_wp2_with (at_builtin; refine wpList_app1 rfl _ _ rfl wr w.heap.size _ _ (seqN t) ((t : Int) + 1) hown (by omega) (by omega) rfl rfl ?_; intro o3 w3 hown3 hap3)
      have HO3 : Hid (w3.ownsRow w.heap.size 3 1 o3 (t + 1) ((seqN (t + 1)).map (Value.int .i64))) := by rw [HSN.out]; exact hown3
      clear hown3
      go_roundw
      case rel => exact ⟨t + 1, by omega, by go_num, HO3.out, HBR.out.trans hap3.below⟩
      case measure => simp [intOf]; omega
    · have htn : t = n := by omega
      subst htn
      have hd1 : decide ((t : Int) + 1 ≤ (t : Int)) = false := decide_eq_false (by omega)
      have HROW : Hid (∀ W, Below wr.heap.size wr W → Row W (.slice al t cl) (seqN t)) := fun W hW => own_row (own_keep hown hW)
      clear hown hbr hlt
      by_cases h16 : 16 < t ∧ t ≤ 20
      · have d1 : decide ((16 : Int) < (t : Int)) = true := decide_eq_true (by omega)
        have d2 : decide ((t : Int) ≤ 20) = true := decide_eq_true (by omega)
        have d3 : decide (16 < t) = true := decide_eq_true (by omega)
        have d4 : decide (t ≤ 20) = true := decide_eq_true (by omega)
        go_wp2_with fail
        go_ret
        exact ⟨rfl, HBR.out⟩
      · by_cases h20 : 20 < t
        · have d1 : decide ((16 : Int) < (t : Int)) = true := decide_eq_true (by omega)
          have d2 : decide ((t : Int) ≤ 20) = false := decide_eq_false (by omega)
          have d3 : decide (16 < t) = true := decide_eq_true (by omega)
          have d4 : decide (t ≤ 20) = false := decide_eq_false (by omega)
          have d5 : decide ((20 : Int) < (t : Int)) = true := decide_eq_true (by omega)
          have d6 : decide (20 < t) = true := decide_eq_true (by omega)
          have hc : limC t = 102 := by unfold limC; rw [if_pos h20]
          rw [hc] at HV HW HT
          clear hc
          go_wp2_with fail
          refine (HV.out _ _ HBR.out (HROW.out _ (Below.refl _ _))).mono ?_
          rintro e w2 ⟨b2, ev2, rfl, he2, hb2⟩
          have hb02 := HBR.out.trans (hb2.mono hsr)
          have hr2 := HROW.out _ hb2
          have HE2 := Lib.hid he2
          clear he2
          go_wp2_with fail
          refine (HW.out _ _ hb02 hr2).mono ?_
          rintro e w3 ⟨b3, ev3, rfl, he3, hb3⟩
          have hb03 := hb02.trans (hb3.mono hb02.size)
          have HE3 := Lib.hid he3
          clear he3 hr2
          go_wp2_with fail
          refine (HT.out _ hb03).mono ?_
          rintro e w4 ⟨u4, b4, ev4, rfl, he4, hb4⟩
          have hb04 := hb03.trans (hb4.mono hb03.size)
          have HE4 := Lib.hid he4
          clear he4
          go_wp2_with fail
          refine (HR.out _ _ ((hb04.alloc hb04.size _).alloc (by have := hb04.size; simp; omega) _) (HR1.out w4)).mono ?_
          rintro e w5 ⟨b5, ev5, rfl, he5, hb5⟩
          have hb05 := ((hb04.alloc hb04.size (.cells #[.int .i64 1] 3)).alloc (by have := hb04.size; simp; omega) (.cells #[.slice (some ⟨w4.heap.size, 0, none⟩) 1 1] 22)).trans (hb5.mono (by have := hb04.size; simp; omega))
          have HE5 := Lib.hid he5
          clear he5
          go_wp2_with (at_make; refine wpList_makeG Value.bool false _ _ 1 Tryd.underlying38 infoBo rfl (by decide) rfl _ _ rfl _ (q + 1) (by simp [go_sem]) (by simp [go_sem]) (by omega) ?_; intro w6 hm6 hb6 hs6)
          have hb06 := hb05.trans (hb6.mono hb05.size)
          have hrow := hm6.row (q + 1) (by simp) (by unfold maxLen; omega)
          rw [List.length_replicate] at hrow
          refine (HM.out _ _ _ hb06 hrow (by simp)).mono ?_
          rintro e w7 ⟨b7, ev7, rfl, he7, hb7⟩
          have hb07 := hb06.trans (hb7.mono hb06.size)
          have HE7 := Lib.hid he7
          have H25 : Hid (∀ W, Below w7.heap.size w7 W → Below w2.heap.size w2 W ∧ Below w3.heap.size w3 W ∧ Below w4.heap.size w4 W ∧ Below w5.heap.size w5 W ∧ Below w.heap.size w W) := fun W hW => by
            have k7 := hW
            have k6 : Below w6.heap.size w6 W := hb7.trans (k7.mono hb7.size)
            have k5 : Below w5.heap.size w5 W := hb6.trans (k6.mono hb6.size)
            have k45 : Below w4.heap.size w4 W := (((Below.refl _ w4).alloc (Nat.le_refl _) (.cells #[.int .i64 1] 3)).alloc (by simp) (.cells #[.slice (some ⟨w4.heap.size, 0, none⟩) 1 1] 22)).trans ((hb5.trans (k5.mono hb5.size)).mono (by simp; omega))
            have k3 : Below w3.heap.size w3 W := hb4.trans (k45.mono hb4.size)
            have k2 : Below w2.heap.size w2 W := hb3.trans (k3.mono hb3.size)
            exact ⟨k2, k3, k45, k5, hb07.trans (k7.mono hb07.size)⟩
          have hbc := Below.refl w7.heap.size w7
          clear he7 hb2 hb3 hb4 hb5 hb6 hb7 hm6 hrow hb02 hb03 hb04 hb05 hb06 hs6
          go_wp2_with fail
          refine (HIS.out _ _ _ (HE2.out.keep (H25.out _ hbc).1)).mono ?_
          rintro e w' ⟨rfl, hbn⟩
          replace hbc := hbc.trans (hbn.mono hbc.size)
          clear hbn
          go_wp2_with fail
          refine (HIS.out _ _ _ (HE3.out.keep (H25.out _ hbc).2.1)).mono ?_
          rintro e w' ⟨rfl, hbn⟩
          replace hbc := hbc.trans (hbn.mono hbc.size)
          clear hbn
          go_wp2_with fail
          refine (HIS.out _ _ _ (HE4.out.keep (H25.out _ hbc).2.2.1)).mono ?_
          rintro e w' ⟨rfl, hbn⟩
          replace hbc := hbc.trans (hbn.mono hbc.size)
          clear hbn
          go_wp2_with fail
          refine (HIS.out _ _ _ (HE5.out.keep (H25.out _ hbc).2.2.2.1)).mono ?_
          rintro e w' ⟨rfl, hbn⟩
          replace hbc := hbc.trans (hbn.mono hbc.size)
          clear hbn
          go_wp2_with fail
          refine (HIS.out _ _ _ (HE7.out.keep hbc)).mono ?_
          rintro e w' ⟨rfl, hbn⟩
          replace hbc := hbc.trans (hbn.mono hbc.size)
          clear hbn
          go_wp2_with fail
          go_ret
          exact ⟨rfl, (H25.out _ hbc).2.2.2.2⟩
        · have d1 : decide ((16 : Int) < (t : Int)) = false := decide_eq_false (by omega)
          have d3 : decide (16 < t) = false := decide_eq_false (by omega)
          have d5 : decide ((20 : Int) < (t : Int)) = false := decide_eq_false (by omega)
          have d6 : decide (20 < t) = false := decide_eq_false (by omega)
          have hc : limC t = 0 := by unfold limC; rw [if_neg h20]
          rw [hc] at HV HW HT
          clear hc
          go_wp2_with fail
          refine (HV.out _ _ HBR.out (HROW.out _ (Below.refl _ _))).mono ?_
          rintro e w2 ⟨b2, ev2, rfl, he2, hb2⟩
          have hb02 := HBR.out.trans (hb2.mono hsr)
          have hr2 := HROW.out _ hb2
          have HE2 := Lib.hid he2
          clear he2
          go_wp2_with fail
          refine (HW.out _ _ hb02 hr2).mono ?_
          rintro e w3 ⟨b3, ev3, rfl, he3, hb3⟩
          have hb03 := hb02.trans (hb3.mono hb02.size)
          have HE3 := Lib.hid he3
          clear he3 hr2
          go_wp2_with fail
          refine (HT.out _ hb03).mono ?_
          rintro e w4 ⟨u4, b4, ev4, rfl, he4, hb4⟩
          have hb04 := hb03.trans (hb4.mono hb03.size)
          have HE4 := Lib.hid he4
          clear he4
          go_wp2_with fail
          refine (HR.out _ _ ((hb04.alloc hb04.size _).alloc (by have := hb04.size; simp; omega) _) (HR1.out w4)).mono ?_
          rintro e w5 ⟨b5, ev5, rfl, he5, hb5⟩
          have hb05 := ((hb04.alloc hb04.size (.cells #[.int .i64 1] 3)).alloc (by have := hb04.size; simp; omega) (.cells #[.slice (some ⟨w4.heap.size, 0, none⟩) 1 1] 22)).trans (hb5.mono (by have := hb04.size; simp; omega))
          have HE5 := Lib.hid he5
          clear he5
          go_wp2_with (at_make; refine wpList_makeG Value.bool false _ _ 1 Tryd.underlying38 infoBo rfl (by decide) rfl _ _ rfl _ (q + 1) (by simp [go_sem]) (by simp [go_sem]) (by omega) ?_; intro w6 hm6 hb6 hs6)
          have hb06 := hb05.trans (hb6.mono hb05.size)
          have hrow := hm6.row (q + 1) (by simp) (by unfold maxLen; omega)
          rw [List.length_replicate] at hrow
          refine (HM.out _ _ _ hb06 hrow (by simp)).mono ?_
          rintro e w7 ⟨b7, ev7, rfl, he7, hb7⟩
          have hb07 := hb06.trans (hb7.mono hb06.size)
          have HE7 := Lib.hid he7
          have H25 : Hid (∀ W, Below w7.heap.size w7 W → Below w2.heap.size w2 W ∧ Below w3.heap.size w3 W ∧ Below w4.heap.size w4 W ∧ Below w5.heap.size w5 W ∧ Below w.heap.size w W) := fun W hW => by
            have k7 := hW
            have k6 : Below w6.heap.size w6 W := hb7.trans (k7.mono hb7.size)
            have k5 : Below w5.heap.size w5 W := hb6.trans (k6.mono hb6.size)
            have k45 : Below w4.heap.size w4 W := (((Below.refl _ w4).alloc (Nat.le_refl _) (.cells #[.int .i64 1] 3)).alloc (by simp) (.cells #[.slice (some ⟨w4.heap.size, 0, none⟩) 1 1] 22)).trans ((hb5.trans (k5.mono hb5.size)).mono (by simp; omega))
            have k3 : Below w3.heap.size w3 W := hb4.trans (k45.mono hb4.size)
            have k2 : Below w2.heap.size w2 W := hb3.trans (k3.mono hb3.size)
            exact ⟨k2, k3, k45, k5, hb07.trans (k7.mono hb07.size)⟩
          have hbc := Below.refl w7.heap.size w7
          clear he7 hb2 hb3 hb4 hb5 hb6 hb7 hm6 hrow hb02 hb03 hb04 hb05 hb06 hs6
          go_wp2_with fail
          refine (HIS.out _ _ _ (HE2.out.keep (H25.out _ hbc).1)).mono ?_
          rintro e w' ⟨rfl, hbn⟩
          replace hbc := hbc.trans (hbn.mono hbc.size)
          clear hbn
          go_wp2_with fail
          refine (HIS.out _ _ _ (HE3.out.keep (H25.out _ hbc).2.1)).mono ?_
          rintro e w' ⟨rfl, hbn⟩
          replace hbc := hbc.trans (hbn.mono hbc.size)
          clear hbn
          go_wp2_with fail
          refine (HIS.out _ _ _ (HE4.out.keep (H25.out _ hbc).2.2.1)).mono ?_
          rintro e w' ⟨rfl, hbn⟩
          replace hbc := hbc.trans (hbn.mono hbc.size)
          clear hbn
          go_wp2_with fail
          refine (HIS.out _ _ _ (HE5.out.keep (H25.out _ hbc).2.2.2.1)).mono ?_
          rintro e w' ⟨rfl, hbn⟩
          replace hbc := hbc.trans (hbn.mono hbc.size)
          clear hbn
          go_wp2_with fail
          refine (HIS.out _ _ _ (HE7.out.keep hbc)).mono ?_
          rintro e w' ⟨rfl, hbn⟩
          replace hbc := hbc.trans (hbn.mono hbc.size)
          clear hbn
          go_wp2_with fail
          go_ret
          exact ⟨rfl, (H25.out _ hbc).2.2.2.2⟩
end Go.Proofs.YtjpchjbpolcndaaDoor
