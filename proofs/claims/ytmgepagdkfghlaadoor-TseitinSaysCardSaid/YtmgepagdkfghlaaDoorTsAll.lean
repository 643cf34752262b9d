/- Contracts of tseitin.Extend and skolemlaw13.first. Conditions: the circuit is right; the two errors lie as 'Sents2' says. · Contracts of skolemmake.Values (Booleans, that many) and skolemlaw9.is. Conditions: few values; the literal is one of the inputs' or a constant. · The contract of lits.Rename: every literal by the new name of its variable, or false where one has none. Conditions: the literals and the names are 64-bit ints above the least, the list is short. · Contracts of assign.holds, assign.Of, skolemref1.Of. Conditions: the literals lie strictly inside the 64 bits. · A circuit's variable ('CV'), one whose outputs are a row of the call's own ('CS'); a variable of clauses ('NV'); a right circuit with other outputs. No conditions beyond those typed. · Contracts of the statements' helpers for errors: skolemref.None, Bare, Placed, SameFault; skolemsee.sentinels, Alike, sentinel, Fault, Same. Conditions: the package's errors lie as 'Sents' says. · Contracts of skolemsee.Fault and skolemsee.Same at the errors that the program answers: none, one of package api's, one of these with a place. Conditions: the package's errors lie as 'Sents' says. · Contracts of skolemsee.Is at an error that reads as a number; graph.Check of a circuit with Inputs below 0. Conditions: those typed. · Contracts of skolemref.SamePairs, SameCircuit at what reads alike: true; of skolemlaw8.code at an error that reads as a number. Conditions: those typed. · Encode of any circuit without literals to be forced, as far as the error; errors as numbers. Conditions: the circuit reads as pairs and ints of 64 bits, not too many; the errors lie as 'Sents' says. · The law TseitinSays where its arguments are not of the size that it looks at. Conditions: as LawTs's. · What the document's clause makes of a first literal and others ('withX'), and that three of them are a gate's; the rows that its Encode lays. No conditions beyond those typed. · The contract of the document's Encode: 'encC'. Conditions: the circuit is right, its literals and those to be forced too; all read as 64-bit ints, not too many. · The contract of the document's Check: what 'checkC' says. Conditions: the circuit reads as pairs and ints of 64 bits, not too many. · Contracts of skolemref.SameBytes and skolemref.SameBools. Conditions: the slices read as the lists named ('RowG'). · Contracts of skolemref.SameClauses and SameCNF at the same lists: true. Conditions: both slices read as these clauses. · The contract of skolemmake.Values with its values told: the same each time. Conditions: few values. · The law TseitinSays: true for whatever arguments. Conditions: the circuit, the slices and the numbers read as 64-bit ints; the errors lie as 'Sents' says. -/
import Derived.Test.YtmgepagdkfghlaaDoorTsF
import Derived.Test.YtmgepagdkfghlaaDoorLkN
import Derived.Test.YtmgepagdkfghlaaDoorEvl
import Derived.Test.YtmgepagdkfghlaaDoorRead
import Derived.Test.YtmgepagdkfghlaaDoorOwn
import Derived.Test.YtmgepagdkfghlaaDoorSlwP
import Derived.Test.YtmgepagdkfghlaaDoorCheckP
import Derived.Test.YtmgepagdkfghlaaDoorSmall
import Derived.Test.YtmgepagdkfghlaaDoorGen
import Derived.Test.YtmgepagdkfghlaaDoorSents
import Derived.Test.YtmgepagdkfghlaaDoorChecked
import Derived.Laws.ResultCell
import Derived.WalkLawsBesides
import Derived.WalkSpells
import Derived.WideLaws
import Derived.Deep.QuietTactic
import Derived.BigQuiet
import Derived.Deep.RegionWith
import Derived.Deep.DeepCutAuto
import Derived.Test.YtmgepagdkfghlaaDoorGrM
import Derived.Test.YtmgepagdkfghlaaDoorCir
import Derived.Test.YtmgepagdkfghlaaDoorTsS
import Derived.Test.YtmgepagdkfghlaaDoorLkA
import Derived.Test.YtmgepagdkfghlaaDoorGrK
import Derived.Test.YtmgepagdkfghlaaDoorRgC
import Derived.RegionTactic
import Derived.WalkSmall
import Derived.Deep.Draws
import Derived.Test.YtmgepagdkfghlaaDoorClIG
namespace Go.Proofs.YtmgepagdkfghlaaDoor
open Go.RowKit

set_option maxHeartbeats 1000000 in
theorem text_any (A : Nat → Addr) (N : Nat) (u v q : Value) (ps : List (Int × Int)) (os : List Int) (ins : List Bool) (w : World) (hs : Sents2 w A) (hu : PRow w u ps) (hv : Row w v os) (hol : os.length ≤ 1000000) (hob : ∀ o ∈ os, in64 o) (hq : BRow w q ins) (hnl : ins.length ≤ 1000) (hc : checkC (N : Int) ps os = 0) :
    Calls Tryd.prog 13 #[circV (N : Int) u v, q] w fun e w' => ∃ z, e = .returned z ∧ w'.ownsRow w.heap.size 4 1 z (N + 1 + ps.length) ((nodesV N ps ins).map Value.bool) ∧ Below w.heap.size w w' := by
  have HL := Lib.hid (fun W (hW : Below w.heap.size w W) => lnodes_any A N u v q ps os ins W (hs.keep hW) (hu.keep hW) (hv.keep hW) hol hob (hq.keep hW) hnl hc)
  obtain ⟨a1, c1, rfl, _⟩ := hu
  obtain ⟨a2, c2, rfl, _⟩ := hv
  obtain ⟨a3, c3, rfl, _⟩ := hq
  have HA : Hid (Below w.heap.size w (w.alloc (.cells #[.int .i64 (N : Int), .slice a1 ps.length c1, .slice a2 os.length c2] 25))) := (Below.refl _ _).alloc (Nat.le_refl _) _
  have HC := Lib.hid (HL.out _ HA.out)
  clear HL hs hob hc hol hnl
  unfold circV at *
  generalize nodesV N ps ins = vs at *
  generalize ps.length = m at *
  generalize os.length = l at *
  generalize ins.length = il at *
  go_enter Tryd.func13, Tryd.ntmps13
  go_wp2_with fail
  refine HC.out.mono ?_
  rintro e w1 ⟨z, rfl, hz, hb1⟩
  have HZ := Lib.hid (own_base hz (show w.heap.size ≤ _ by simp))
  have HB1 := Lib.hid (HA.out.trans (hb1.mono (by simp)))
  obtain ⟨az, cz, rfl, _, _⟩ := own_shape hz
  clear hz hb1
  go_wp2_with fail
  go_ret
  exact ⟨_, rfl, HZ.out, HB1.out⟩

theorem okO_all {N : Nat} {ps : List (Int × Int)} {os : List Int} (h : checkC (N : Int) ps os = 0) : ∀ o ∈ os, in64 o := by
  obtain ⟨h1, h2, h3⟩ := check_zero8 h
  refine okO_in (m := N + ps.length) (by omega) fun o ho => ?_
  obtain ⟨j, hj, rfl⟩ := List.getElem_of_mem ho
  simpa [List.getD, hj] using h3 j hj
set_option maxHeartbeats 1000000 in
theorem first13_any (A : Nat → Addr) (w : World) (hs : Sents2 w A) :
    Calls Tryd.prog 7 #[] w fun e w' => e = .returned (.bool true) ∧ Below w.heap.size w w' := by
  have HR : Hid (Row (w.alloc (.cells #[.int .i64 0] 3)) (.slice (some ⟨w.heap.size, 0, none⟩) 1 1) [0]) := row_lit13 w [0] (by simp)
  have HB2 : Hid (Below w.heap.size w (w.alloc (.cells #[.int .i64 0] 3))) := (Below.refl _ w).alloc (Nat.le_refl _) _
  have HE := Lib.hid (tenc_ok A 1 (.slice none 0 0) (.slice none 0 0) (.slice (some ⟨w.heap.size, 0, none⟩) 1 1) [] [] [0] _ (hs.keep HB2.out) (PRow.nil _) (Row.nil _) HR.out (by simp) (by simp) (by simp) (by intro l hl; simp at hl; subst hl; exact ⟨by omega, by omega⟩) (by decide) (by decide) (by simp))
  have HL := Lib.hid (fun W => tlit_any 5 W (by omega) (by omega))
  rw [show litC 5 = -2 from by decide] at HL
  unfold EncPost at HE
  rw [show encC 1 [] [0] = [[]] from by decide, show errC A 0 = .nilIface from rfl] at HE
  unfold circV at HE
  rw [show ((1 : Nat) : Int) + (([] : List (Int × Int)).length : Int) = 1 from rfl, show ((1 : Nat) : Int) = 1 from rfl] at HE
  clear hs
  go_enter Tryd.func7, Tryd.ntmps7
  go_wp2_with fail
  refine HE.out.mono ?_
  rintro e w1 ⟨⟨o, rfl, hr⟩, hb1⟩
  have HB := Lib.hid (HB2.out.trans (hb1.mono (by simp)))
  obtain ⟨ao, co, rfl, _⟩ := hr.rows
  have HA : Hid (Below w.heap.size w (w1.alloc (.cells #[.int .i64 1, .slice ao 1 co] 29))) := HB.out.alloc HB.out.size _
  obtain ⟨k0, k1⟩ := two_new w1 w1.heap.size rfl (.int .i64 1) (.slice ao 1 co) 29
  simp only [List.length_singleton]
  clear hr hb1
  go_wp2_with (go_at_call 20; refine (HL.out _).mono ?_; rintro e w' ⟨rfl, rfl⟩)
  go_ret
  exact ⟨rfl, HA.out⟩
end Go.Proofs.YtmgepagdkfghlaaDoor

namespace Go.Proofs.YtmgepagdkfghlaaDoor
open Go.RowKit

set_option maxRecDepth 8000 in
set_option maxHeartbeats 2000000 in
theorem values_any (n : Int) (m : Nat) (w : World) (_hn1 : -9223372036854775808 ≤ n) (_hn2 : n ≤ 9223372036854775807) (hm : m ≤ 59) :
    Calls Tryd.prog 14 #[.int .i64 n, .int .i64 (m : Int)] w fun e w' => ∃ (z : Value) (xs : List Bool), e = .returned z ∧ w'.ownsRow w.heap.size 4 1 z m (xs.map Value.bool) ∧ Below w.heap.size w w' := by
  go_enter Tryd.func14, Tryd.ntmps14
  go_wp2_with fail
  go_loopw [6, 5] (fun i u wr => ∃ (k : Nat) (xs : List Bool), k ≤ m ∧ i = .int .i64 k ∧ wr.ownsRow w.heap.size 4 1 u k (xs.map Value.bool) ∧ Below w.heap.size w wr) (fun i _ _ => m - (intOf i).toNat)
  case atStart => exact ⟨0, [], Nat.zero_le _, rfl, World.ownsRow_nil _ _ _ _, Below.refl _ _⟩
  case round =>
    obtain ⟨k, xs, hk, rfl, hown, hbr⟩ := hrel
    obtain ⟨ab, cb, rfl, _, hcb⟩ := own_shape hown
    unfold maxLen at hcb
    by_cases hlt : k < m
    · have hsz := hbr.size
      have HBQ := Lib.hid hbr
      clear hbr
      go_wp2_with (at_builtin; refine wpList_app1G Value.bool 40 4 (.bool false) 1 Tryd.underlying40 infoBool9 rfl (by decide) rfl _ _ rfl wr w.heap.size _ k xs _ rfl hown hsz (by omega) rfl rfl ?_; intro u' w5 hown5 hap5)
      go_roundw
      case rel => exact ⟨k + 1, _, by omega, by go_num, hown5, HBQ.out.trans hap5.below⟩
      case measure => simp [intOf]; omega
    · have hkm : m = k := by omega
      subst hkm
      go_wp2_with fail
      go_ret
      exact ⟨_, _, rfl, hown, hbr⟩

end Go.Proofs.YtmgepagdkfghlaaDoor

namespace Go.Proofs.YtmgepagdkfghlaaDoor
open Go.RowKit

/-- All ints of the list lie strictly inside the 64 bits. -/
def InW (xs : List Int) : Prop := ∀ x ∈ xs, -9223372036854775807 ≤ x ∧ x ≤ 9223372036854775807
theorem InW.get {xs : List Int} (h : InW xs) (k : Nat) : -9223372036854775807 ≤ xs.getD k 0 ∧ xs.getD k 0 ≤ 9223372036854775807 := by
  by_cases hk : k < xs.length
  · have := h _ (List.getElem_mem hk); simpa [List.getD, hk] using this
  · simp [List.getD, show xs.length ≤ k by omega]

/-- What Rename leaves. -/
def RenPost (w : World) (xs bs : List Int) (e : Ending) (w' : World) : Prop :=
  ∃ v', e = .returned (.tuple #[v', .bool (xs.all (renOk bs))]) ∧ Below w.heap.size w w' ∧
    (xs.all (renOk bs) = true → w'.ownsRow w.heap.size 3 1 v' xs.length ((xs.map (ren1 bs)).map (Value.int .i64))) ∧ (xs.all (renOk bs) = false → v' = .slice none 0 0)

theorem all_snoc (f : Int → Bool) (xs : List Int) (k : Nat) (h : k < xs.length) : (xs.take (k + 1)).all f = ((xs.take k).all f && f (xs.getD k 0)) := by
  rw [take_snoc xs k h, List.all_append]; simp
theorem all_false (f : Int → Bool) (xs : List Int) (k : Nat) (h : k < xs.length) (hf : f (xs.getD k 0) = false) : xs.all f = false := by
  rw [List.all_eq_false]
  exact ⟨xs[k], List.getElem_mem h, by simpa [List.getD, h] using hf⟩

end Go.Proofs.YtmgepagdkfghlaaDoor

namespace Go.Proofs.YtmgepagdkfghlaaDoor
open Go.RowKit

/-- The value v is a slice of bools that reads as bs. -/
abbrev BoolRow (w : World) (v : Value) (bs : List Bool) : Prop := RowG Value.bool false w v bs
theorem any_snoc (f : Int → Bool) (xs : List Int) (k : Nat) (h : k < xs.length) : (xs.take (k + 1)).any f = ((xs.take k).any f || f (xs.getD k 0)) := by
  rw [take_snoc xs k h, List.any_append]; simp
theorem any_true (f : Int → Bool) (xs : List Int) (k : Nat) (h : k < xs.length) (hf : f (xs.getD k 0) = true) : xs.any f = true := by
  rw [List.any_eq_true]
  exact ⟨xs[k], List.getElem_mem h, by simpa [List.getD, h] using hf⟩

theorem ofL_succ (cs : List (List Int)) (bs : List Bool) (k : Nat) (h : k < cs.length) : ofL (cs.take (k + 1)) bs = (ofL (cs.take k) bs && ofC bs (cs.getD k [])) := by
  unfold ofL
  rw [List.take_succ_eq_append_getElem h, List.all_append]; simp [List.getD, h]
theorem ofL_no (cs : List (List Int)) (bs : List Bool) (k : Nat) (h : k < cs.length) (hf : ofC bs (cs.getD k []) = false) : ofL cs bs = false := by
  unfold ofL
  rw [List.all_eq_false]
  exact ⟨cs[k], List.getElem_mem h, by rw [show cs[k] = cs.getD k [] by simp [List.getD, h], hf]; simp⟩
theorem row_inW {xss : List (List Int)} (h : ∀ xs ∈ xss, InW xs) (k : Nat) : InW (xss.getD k []) := by
  by_cases hk : k < xss.length
  · have := h _ (List.getElem_mem hk); simpa [List.getD, hk] using this
  · intro x hx; simp [List.getD, show xss.length ≤ k by omega] at hx

set_option maxRecDepth 4000 in
set_option maxHeartbeats 4000000 in
theorem refOf_any (a : Option Addr) (cap : Nat) (xss : List (List Int)) (mv : Value) (bs : List Bool) (w : World) (hr : RowsAt w a cap xss) (hm : BoolRow w mv bs) (hxs : ∀ xs ∈ xss, InW xs) :
    Calls Tryd.prog 22 #[.slice a xss.length cap, mv] w fun e w' => e = .returned (.bool (ofL xss bs)) ∧ w = w' := by
  obtain ⟨hc1, hc2, hr⟩ := hr
  unfold maxLen at hc2
  have HR := Lib.hid hr; clear hr
  have HW := Lib.hid hxs; clear hxs
  obtain ⟨a2, c2, rfl, hm1, hm2, hm3⟩ := hm
  unfold maxLen at hm2
  have HM := Lib.hid hm3; clear hm3
  generalize hN : xss.length = n at *
  have HN := Lib.hid hN; clear hN
  generalize hR : bs.length = r at *
  have HRB := Lib.hid hR; clear hR
  go_enter Tryd.func22, Tryd.ntmps22
  go_wp2_with fail
  go_loop [5, 6, 7, 8] (fun i _ _ _ => ∃ k : Nat, k ≤ n ∧ i = .int .i64 k ∧ Hid (ofL (xss.take k) bs = true)) (fun i _ _ _ => n - (intOf i).toNat)
  case atStart => exact ⟨0, Nat.zero_le _, rfl, by simp [Hid, ofL]⟩
  case round =>
    obtain ⟨k, hk, rfl, HQ⟩ := hrel
    by_cases hlt : k < n
    · obtain ⟨b, off, ha, hb, hc⟩ := HR.out.resolve_left (by omega)
      subst ha
      obtain ⟨v, g1, hv⟩ := hc k hlt
      clear hc
      have hkl : k < xss.length := by rw [HN.out]; exact hlt
      have HT := Lib.hid (ofL_succ xss bs k hkl)
      have HF := Lib.hid (ofL_no xss bs k hkl)
      have HWk := Lib.hid (row_inW HW.out k)
      generalize xss.getD k [] = ys at *
      obtain ⟨av, cv, rfl, hv1, hv2, hv3⟩ := hv
      unfold maxLen at hv2
      have HY := Lib.hid hv3; clear hv3
      generalize hL : ys.length = m at *
      have HL := Lib.hid hL; clear hL
      go_wp2_with fail
      go_loop [6, 7, 8] (fun is j _ => ∃ (q : Nat) (t : Bool), q ≤ m ∧ is = .bool t ∧ j = .int .i64 q ∧ Hid ((ys.take q).any (holdsL bs) = t)) (fun _ j _ => m - (intOf j).toNat)
      case atStart => exact ⟨0, false, Nat.zero_le _, rfl, rfl, by simp [Hid]⟩
      case round =>
        obtain ⟨q, t, hq, rfl, rfl, HP⟩ := hrel
        by_cases hql : q < m
        · obtain ⟨b3, off3, ha3, hb3, hc3⟩ := HY.out.resolve_left (by omega)
          subst ha3
          have g2 := hc3 q hql
          clear hc3
          have hyb := HWk.out.get q
          have HU := Lib.hid (any_snoc (holdsL bs) ys q (by rw [HL.out]; exact hql))
          generalize ys.getD q 0 = y at *
          obtain ⟨hy1, hy2⟩ := hyb
          have HH := Lib.hid (show holdsL bs y = ((decide (1 ≤ plc y) && decide (plc y < bs.length)) && (bs.getD (plc y) false == decide (0 < y))) from rfl)
          rw [HRB.out] at HH
          rw [HP.out] at HU
          by_cases hyp : 0 < y
          · have hpm := plc_pos hyp
            have hyn : ¬ y < 0 := by omega
            generalize plc y = z at *
            subst hpm
            have hzd : decide (0 < (z : Int)) = true := by rw [decide_eq_true_iff]; exact hyp
            rw [hzd] at HH
            clear hzd
            by_cases hz : z < r
            · obtain ⟨b4, off4, ha4, hb4, hc4⟩ := HM.out.resolve_left (by omega)
              subst ha4
              have g3 := hc4 z hz
              clear hc4
              generalize bs.getD z false = x at *
              have hz1 : (decide (1 ≤ z) && decide (z < r)) = true := by simp; omega
              rw [hz1] at HH
              clear hz1
              cases x with
              | true =>
                have HU' := Lib.hid (show (ys.take (q + 1)).any (holdsL bs) = true by rw [HU.out, HH.out]; simp)
                clear HU
                go_wp2
                go_round
                case rel => exact ⟨q + 1, true, by omega, rfl, by go_num, HU'.out⟩
                case measure => simp [intOf]; omega
              | false =>
                have HU' := Lib.hid (show (ys.take (q + 1)).any (holdsL bs) = t by rw [HU.out, HH.out]; simp)
                clear HU
                go_wp2
                go_round
                case rel => exact ⟨q + 1, t, by omega, rfl, by go_num, HU'.out⟩
                case measure => simp [intOf]; omega
            · have hz1 : (decide (1 ≤ z) && decide (z < r)) = false := by simp; omega
              rw [hz1] at HH
              clear hz1
              have HU' := Lib.hid (show (ys.take (q + 1)).any (holdsL bs) = t by rw [HU.out, HH.out]; simp)
              clear HU
              go_wp2
              go_round
              case rel => exact ⟨q + 1, t, by omega, rfl, by go_num, HU'.out⟩
              case measure => simp [intOf]; omega
          · by_cases hyn : y < 0
            · have hpm := plc_neg hyn
              have hzd : decide (0 < y) = false := by simp; omega
              rw [hzd] at HH
              clear hzd
              generalize plc y = z at *
              obtain rfl : y = -(z : Int) := by omega
              clear hpm
              by_cases hz : z < r
              · obtain ⟨b4, off4, ha4, hb4, hc4⟩ := HM.out.resolve_left (by omega)
                subst ha4
                have g3 := hc4 z hz
                clear hc4
                generalize bs.getD z false = x at *
                have hz1 : (decide (1 ≤ z) && decide (z < r)) = true := by simp; omega
                rw [hz1] at HH
                clear hz1
                cases x with
                | false =>
                  have HU' := Lib.hid (show (ys.take (q + 1)).any (holdsL bs) = true by rw [HU.out, HH.out]; simp)
                  clear HU
                  go_wp2
                  go_round
                  case rel => exact ⟨q + 1, true, by omega, rfl, by go_num, HU'.out⟩
                  case measure => simp [intOf]; omega
                | true =>
                  have HU' := Lib.hid (show (ys.take (q + 1)).any (holdsL bs) = t by rw [HU.out, HH.out]; simp)
                  clear HU
                  go_wp2
                  go_round
                  case rel => exact ⟨q + 1, t, by omega, rfl, by go_num, HU'.out⟩
                  case measure => simp [intOf]; omega
              · have hz1 : (decide (1 ≤ z) && decide (z < r)) = false := by simp; omega
                rw [hz1] at HH
                clear hz1
                have HU' := Lib.hid (show (ys.take (q + 1)).any (holdsL bs) = t by rw [HU.out, HH.out]; simp)
                clear HU
                go_wp2
                go_round
                case rel => exact ⟨q + 1, t, by omega, rfl, by go_num, HU'.out⟩
                case measure => simp [intOf]; omega
            · obtain rfl : y = 0 := by omega
              rw [plc_zero] at HH
              have HU' := Lib.hid (show (ys.take (q + 1)).any (holdsL bs) = t by rw [HU.out, HH.out]; simp)
              clear HU
              go_wp2
              go_round
              case rel => exact ⟨q + 1, t, by omega, rfl, by go_num, HU'.out⟩
              case measure => simp [intOf]; omega
        · have hqm : q = m := by omega
          have hl : ys.take q = ys := List.take_of_length_le (by rw [HL.out]; omega)
          have HO := Lib.hid (show ofC bs ys = t by have := HP.out; rwa [hl] at this)
          clear hl hql
          cases t with
          | false =>
            have HF' := Lib.hid (HF.out HO.out)
            clear HF HT
            go_wp2
            go_ret
            exact ⟨ret_bool HF'.out.symm, rfl⟩
          | true =>
            have HT' := Lib.hid (show ofL (xss.take (k + 1)) bs = true by rw [HT.out, HQ.out, HO.out]; rfl)
            clear HF HT
            go_wp2
            go_round
            case rel => exact ⟨k + 1, by omega, by go_num, HT'.out⟩
            case measure => simp [intOf]; omega
    · have hkn : k = n := by omega
      have HA := Lib.hid (show ofL xss bs = true by have := HQ.out; rwa [hkn, List.take_of_length_le (by rw [HN.out]; exact Nat.le_refl _)] at this)
      clear hlt HQ
      go_wp2
      go_ret
      exact ⟨ret_bool HA.out.symm, rfl⟩
end Go.Proofs.YtmgepagdkfghlaaDoor

namespace Go.Proofs.YtmgepagdkfghlaaDoor
open Go.RowKit

/-- A variable of type api.Circuit at block b. -/
structure CV (W : World) (b : Nat) (n : Int) (u o : Value) : Prop where
  c0 : W.cell? ⟨b, 0, none⟩ = some (.int .i64 n)
  c1 : W.cell? ⟨b, 1, none⟩ = some u
  c2 : W.cell? ⟨b, 2, none⟩ = some o
  fr : ∀ k, W.frozen? ⟨b, k, none⟩ = false
  lt : b < W.heap.size
theorem CV.keep {W W' : World} {b : Nat} {n : Int} {u o : Value} (h : CV W b n u o) (hb : Below W.heap.size W W') : CV W' b n u o where
  c0 := (hb.cell (p := ⟨b, 0, none⟩) h.lt).trans h.c0
  c1 := (hb.cell (p := ⟨b, 1, none⟩) h.lt).trans h.c1
  c2 := (hb.cell (p := ⟨b, 2, none⟩) h.lt).trans h.c2
  fr := fun k => (hb.frozen (p := ⟨b, k, none⟩) h.lt).trans (h.fr k)
  lt := Nat.lt_of_lt_of_le h.lt hb.size
theorem CV.set1 {W : World} {b : Nat} {n : Int} {u o : Value} (h : CV W b n u o) (u' : Value) : CV (W.setCell ⟨b, 1, none⟩ u') b n u' o where
  c0 := (set_off (.inr (by decide))).trans h.c0
  c1 := set_at h.c1
  c2 := (set_off (.inr (by decide))).trans h.c2
  fr := fun k => (World.frozen?_setCell _ _ _ _).trans (h.fr k)
  lt := by have := h.lt; simpa using this
theorem CV.set2 {W : World} {b : Nat} {n : Int} {u o : Value} (h : CV W b n u o) (o' : Value) : CV (W.setCell ⟨b, 2, none⟩ o') b n u o' where
  c0 := (set_off (.inr (by decide))).trans h.c0
  c1 := (set_off (.inr (by decide))).trans h.c1
  c2 := set_at h.c2
  fr := fun k => (World.frozen?_setCell _ _ _ _).trans (h.fr k)
  lt := by have := h.lt; simpa using this
theorem CV.new (w : World) (n : Int) (u o : Value) (T : TypeId) : CV (w.alloc (.cells #[.int .i64 n, u, o] T)) w.heap.size n u o where
  c0 := by rw [cell_of_row _ _ 0 _ T (0, 0) (heap_alloc_new _ _)]; rfl
  c1 := by rw [cell_of_row _ _ 1 _ T (0, 0) (heap_alloc_new _ _)]; rfl
  c2 := by rw [cell_of_row _ _ 2 _ T (0, 0) (heap_alloc_new _ _)]; rfl
  fr := fun k => by simp only [World.frozen?, heap_alloc_new]; simp
  lt := by simp
/-- A circuit's variable at b whose outputs are a row of the call's own. -/
structure CS (w3 : World) (b : Nat) (n : Int) (u o : Value) (os : List Int) (W : World) : Prop where
  cv : CV W b n u o
  bel : Below b w3 W
  own : W.ownsRow (b + 1) 3 1 o os.length (os.map (Value.int .i64))
theorem CS.keep {w3 : World} {b : Nat} {n : Int} {u o : Value} {os : List Int} {W W' : World} (h : CS w3 b n u o os W) (hb : Below W.heap.size W W') : CS w3 b n u o os W' :=
  ⟨h.cv.keep hb, h.bel.trans (hb.mono (Nat.le_of_lt h.cv.lt)), own_keep h.own hb⟩
theorem cs_outs {w3 : World} {b : Nat} {n : Int} {u o : Value} {W : World} (hc : CV W b n u o) (hb : Below b w3 W) (xs : List Int) (k : Nat) (hk : xs.length = k) (hx : k ≤ 1000000) : CS w3 b n u (.slice (some ⟨W.heap.size, 0, none⟩) k k) xs ((W.setCell ⟨b, 2, none⟩ (.slice (some ⟨W.heap.size, 0, none⟩) k k)).alloc (.cells (xs.map (Value.int .i64)).toArray 3)) := by
  subst hk
  have hz : (W.setCell ⟨b, 2, none⟩ (.slice (some ⟨W.heap.size, 0, none⟩) xs.length xs.length)).heap.size = W.heap.size := by simp
  have h0 := hc.set2 (.slice (some ⟨W.heap.size, 0, none⟩) xs.length xs.length)
  have h2 := own_lit (W.setCell ⟨b, 2, none⟩ (.slice (some ⟨W.heap.size, 0, none⟩) xs.length xs.length)) (b + 1) 3 (xs.map (Value.int .i64)) h0.lt (by rw [List.length_map]; exact hx)
  rw [List.length_map, hz] at h2
  exact ⟨h0.keep ((Below.refl _ _).alloc (Nat.le_refl _) _), (hb.setCell (Nat.le_refl _) _).alloc (Nat.le_of_lt h0.lt) _, h2⟩
theorem check_outs {N : Nat} {ps : List (Int × Int)} {os os' : List Int} (hc : checkC (N : Int) ps os = 0) (h : ∀ o ∈ os', okO (N + ps.length) o = true) : checkC (N : Int) ps os' = 0 := by
  obtain ⟨h1, h2, _⟩ := check_zero8 hc
  exact mk_right h1 h2 h
theorem check_in64 {N : Nat} {ps : List (Int × Int)} {os : List Int} (hc : checkC (N : Int) ps os = 0) : ∀ o ∈ os, in64 o := by
  obtain ⟨h1, _, h3⟩ := check_zero8 hc
  intro o ho
  obtain ⟨j, hj, rfl⟩ := List.getElem_of_mem ho
  have := (okO_iff _ _).1 (h3 j hj)
  simp only [List.getD, List.getElem?_eq_getElem hj, Option.getD_some] at this
  unfold in64
  omega

/-- A variable of clauses at block b. -/
structure NV (W : World) (b : Nat) (m : Int) (o : Value) : Prop where
  c0 : W.cell? ⟨b, 0, none⟩ = some (.int .i64 m)
  c1 : W.cell? ⟨b, 1, none⟩ = some o
  lt : b < W.heap.size
theorem NV.keep {W W' : World} {b : Nat} {m : Int} {o : Value} (h : NV W b m o) (hb : Below W.heap.size W W') : NV W' b m o where
  c0 := (hb.cell (p := ⟨b, 0, none⟩) h.lt).trans h.c0
  c1 := (hb.cell (p := ⟨b, 1, none⟩) h.lt).trans h.c1
  lt := Nat.lt_of_lt_of_le h.lt hb.size
theorem NV.new (w : World) (m : Int) (o : Value) (T : TypeId) : NV (w.alloc (.cells #[.int .i64 m, o] T)) w.heap.size m o where
  c0 := by rw [cell_of_row _ _ 0 _ T (0, 0) (heap_alloc_new _ _)]; rfl
  c1 := by rw [cell_of_row _ _ 1 _ T (0, 0) (heap_alloc_new _ _)]; rfl
  lt := by simp
theorem NV.off {W : World} {b : Nat} {m : Int} {o : Value} (h : NV W b m o) {b' i : Nat} (hb : b' ≠ b) (v : Value) : NV (W.setCell ⟨b', i, none⟩ v) b m o where
  c0 := (set_off (.inl hb)).trans h.c0
  c1 := (set_off (.inl hb)).trans h.c1
  lt := by have := h.lt; simpa using this
theorem CRow.rows_at {w : World} {B : Nat} {a : Option Addr} {L c : Nat} {xss : List (List Int)} (h : CRow w B (.slice a L c) xss) : L = xss.length ∧ RowsAt w a c xss := by
  obtain ⟨a', c', e, hr⟩ := h.rows
  injection e with e1 e2 e3
  subst e1; subst e3
  exact ⟨e2, hr⟩
theorem InC.inW {m : Int} {c : List Int} (h : InC m c) (hm : m ≤ 1000000) : InW c := fun x hx => by have := h x hx; omega
end Go.Proofs.YtmgepagdkfghlaaDoor

namespace Go.Proofs.YtmgepagdkfghlaaDoor
open Go.RowKit

/-- A fault as a value. -/
def faultV (c : Int) (p : Bool) (k : Int) : Value := .agg #[.int .i64 c, .bool p, .int .i64 k]

set_option maxHeartbeats 400000 in
theorem none_any (w : World) : Calls Tryd.prog 30 #[] w fun e w' => e = .returned (faultV 0 false 0) ∧ Below w.heap.size w w' := by
  go_enter Tryd.func30, Tryd.ntmps30
  go_wp2
  exact bodyPost_ret (v := faultV 0 false 0) (by simp [results, Tryd.results30, go_sem, faultV]) rfl ⟨rfl, ((Below.refl _ w).alloc (Nat.le_refl _) _)⟩

set_option maxHeartbeats 400000 in
theorem bare_any (c : Int) (w : World) : Calls Tryd.prog 31 #[.int .i64 c] w fun e w' => e = .returned (faultV c false 0) ∧ Below w.heap.size w w' := by
  go_enter Tryd.func31, Tryd.ntmps31
  go_wp2
  exact bodyPost_ret (v := faultV c false 0) (by simp [results, Tryd.results31, go_sem, faultV]) rfl ⟨rfl, ((Below.refl _ w).alloc (Nat.le_refl _) _)⟩

set_option maxHeartbeats 400000 in
theorem placed_any (c k : Int) (w : World) (hc : c ≠ 0) : Calls Tryd.prog 33 #[.int .i64 c, .int .i64 k] w fun e w' => e = .returned (faultV c true k) ∧ Below w.heap.size w w' := by
  have hcb : (c == 0) = false := by simp [hc]
  go_enter Tryd.func33, Tryd.ntmps33
  go_wp2
  exact bodyPost_ret (v := faultV c true k) (by simp [results, Tryd.results33, go_sem, faultV]) rfl ⟨rfl, ((Below.refl _ w).alloc (Nat.le_refl _) _)⟩

set_option maxHeartbeats 1000000 in
theorem sameFault_yes (c : Int) (p : Bool) (k : Int) (w : World) : Calls Tryd.prog 51 #[faultV c p k, faultV c p k] w fun e w' => e = .returned (.bool true) ∧ Below w.heap.size w w' := by
  unfold faultV
  have h1 : (c == c) = true := by simp
  have h2 : (p == p) = true := by simp
  have h3 : (k == k) = true := by simp
  go_enter Tryd.func51, Tryd.ntmps51
  go_wp2
  go_ret
  exact ⟨rfl, ((Below.refl _ w).alloc (Nat.le_refl _) _).alloc (by simp) _⟩

set_option maxHeartbeats 1000000 in
theorem sentinels_any (A : Nat → Addr) (w : World) (h : Sents w A) : Calls Tryd.prog 47 #[] w fun e w' => e = .returned (.slice (some ⟨w.heap.size, 0, none⟩) 7 7) ∧ Below w.heap.size w w' ∧ ∀ i, i < 7 → w'.cell? ⟨w.heap.size, i, none⟩ = some (sentV A i) := by
  have h0 := h.c0; have h1 := h.c1; have h2 := h.c2; have h3 := h.c3; have h4 := h.c4; have h5 := h.c5; have h6 := h.c6
  clear h
  go_enter Tryd.func47, Tryd.ntmps47
  go_wp2
  go_ret
  refine ⟨rfl, (Below.refl _ w).alloc (Nat.le_refl _) _, fun i hi => ?_⟩
  rw [World.cell?_alloc_at _ _ _ _ rfl]
  match i, hi with
  | 0, _ => rfl
  | 1, _ => rfl
  | 2, _ => rfl
  | 3, _ => rfl
  | 4, _ => rfl
  | 5, _ => rfl
  | 6, _ => rfl

theorem compES : (Tryd.prog.info? 90).map (·.comparable) = some true := by kernel_rfl
theorem sizeES : (Tryd.prog.info? 107).map (·.size) = some 1 := by kernel_rfl

set_option maxHeartbeats 1000000 in
theorem alike_same (A : Nat → Addr) (i : Nat) (w : World) : Calls Tryd.prog 48 #[sentV A i, sentV A i] w fun e w' => e = .returned (.bool true) ∧ w = w' := by
  obtain ⟨ip, hi, hc⟩ := Option.map_eq_some_iff.1 compES
  obtain ⟨jp, hj, hs⟩ := Option.map_eq_some_iff.1 sizeES
  have heq := run_eql_iface_ptr_same (P := Tryd.prog) w (A i) Tryd.underlying31 Tryd.underlying90 hi hc hj
  clear hi hc hj hs
  unfold sentV
  generalize A i = a at *
  go_enter Tryd.func48, Tryd.ntmps48
  go_wp2
  go_ret
  exact ⟨rfl, rfl⟩

set_option maxHeartbeats 1000000 in
theorem alike_other (A : Nat → Addr) (i j : Nat) (w : World) (h : Sents w A) (h1 : i < 7) (h2 : j < 7) (hne : i ≠ j) : Calls Tryd.prog 48 #[sentV A i, sentV A j] w fun e w' => e = .returned (.bool false) ∧ w = w' := by
  obtain ⟨ip, hi, hc⟩ := Option.map_eq_some_iff.1 compES
  obtain ⟨jp, hj, hs⟩ := Option.map_eq_some_iff.1 sizeES
  obtain ⟨c1, t1, r1⟩ := h.row i h1
  obtain ⟨c2, t2, r2⟩ := h.row j h2
  have heq := run_eql_iface_ptr_other (P := Tryd.prog) w Tryd.underlying31 Tryd.underlying90 hi hc hj (by rw [hs]; decide) (h.ne i j h1 h2 hne) r1 r2
  clear hi hc hj hs r1 r2 h h1 h2
  unfold sentV
  generalize A i = a at *
  generalize A j = b at *
  go_enter Tryd.func48, Tryd.ntmps48
  go_wp2
  go_ret
  exact ⟨rfl, rfl⟩

set_option maxHeartbeats 1000000 in
theorem sentinel_any (A : Nat → Addr) (i : Nat) (w : World) (h : Sents w A) (hi : i < 7) : Calls Tryd.prog 32 #[sentV A i] w fun e w' => e = .returned (.int .i64 (101 + (i : Int))) ∧ Below w.heap.size w w' := by
  have HS := Lib.hid (sentinels_any A w h)
  have HA := Lib.hid (fun W (hW : Below w.heap.size w W) (j : Nat) (hj : j < 7) (hne : i ≠ j) => alike_other A i j W (h.keep hW) hi hj hne)
  have HB := Lib.hid (fun W => alike_same A i W)
  clear h
  go_enter Tryd.func32, Tryd.ntmps32
  go_wp2_with fail
  refine HS.out.mono ?_
  rintro e w1 ⟨rfl, hb, hc⟩
  have HC := Lib.hid hc; clear hc
  go_wp2_with fail
  go_loop [4] (fun v => ∃ k : Nat, k ≤ i ∧ v = .int .i64 k) (fun v => i - (intOf v).toNat)
  case atStart => exact ⟨0, Nat.zero_le _, rfl⟩
  case round =>
    obtain ⟨k, hk, rfl⟩ := hrel
    have g1 := HC.out k (by omega)
    by_cases hlt : k < i
    · have hcon := Lib.hid (HA.out w1 hb k (by omega) (by omega))
      generalize sentV A k = vk at *
      generalize sentV A i = vi at *
      go_wp2_with (go_at_call 48; refine hcon.out.mono ?_; rintro e w' ⟨rfl, rfl⟩)
      go_round
      case rel => exact ⟨k + 1, by omega, by go_num⟩
      case measure => simp [intOf]; omega
    · obtain rfl : k = i := by omega
      have hcon := Lib.hid (HB.out w1)
      generalize sentV A k = vk at *
      go_wp2_with (go_at_call 48; refine hcon.out.mono ?_; rintro e w' ⟨rfl, rfl⟩)
      go_ret
      exact ⟨rfl, hb⟩
end Go.Proofs.YtmgepagdkfghlaaDoor

namespace Go.Proofs.YtmgepagdkfghlaaDoor
open Go.RowKit

theorem noAt (v : Value) (w : World) : (Instr.typeAssert (.iface 90 v) 31 62 true).run Tryd.prog w = .ok (.tuple #[.pointer none, .bool false]) w := by kernel_rfl
theorem isAt (v : Value) (w : World) : (Instr.typeAssert (.iface 62 v) 31 62 true).run Tryd.prog w = .ok (.tuple #[v, .bool true]) w := by kernel_rfl

set_option maxHeartbeats 1000000 in
theorem fault_nil (w : World) : Calls Tryd.prog 9 #[.nilIface] w fun e w' => e = .returned (faultV 0 false 0) ∧ Below w.heap.size w w' := by
  have HN := Lib.hid none_any
  go_enter Tryd.func9, Tryd.ntmps9
  go_wp2_with fail
  refine (HN.out _).mono ?_
  rintro e w1 ⟨rfl, hb⟩
  obtain ⟨hc, hf⟩ := bcell hb
  unfold faultV
  go_wp2_with fail
  exact bodyPost_ret (v := .agg #[.int .i64 0, .bool false, .int .i64 0]) (by simp [results, Tryd.results9, go_sem, hc]) rfl ⟨rfl, (((Below.refl _ w).alloc (Nat.le_refl _) _).trans (hb.mono (by simp))).setCell (by simp) _ |>.setCell (by simp) _ |>.setCell (by simp) _⟩

set_option maxHeartbeats 1000000 in
theorem fault_sent (A : Nat → Addr) (i : Nat) (w : World) (h : Sents w A) (hi : i < 7) : Calls Tryd.prog 9 #[sentV A i] w fun e w' => e = .returned (faultV (101 + (i : Int)) false 0) ∧ Below w.heap.size w w' := by
  have HS := Lib.hid (fun W (hW : Below w.heap.size w W) => sentinel_any A i W (h.keep hW) hi)
  have HB := Lib.hid bare_any
  have hv : sentV A i = .iface 90 (.pointer (some (A i))) := rfl
  rw [hv] at HS ⊢
  clear hv
  generalize A i = a at *
  have hbn : 101 + (i : Int) ≤ 1000 := by omega
  have hbp : (0 : Int) ≤ 101 + (i : Int) := by omega
  clear h
  have hna := noAt
  go_enter Tryd.func9, Tryd.ntmps9
  go_wp2_with fail
  refine (HS.out _ ((Below.refl _ w).alloc (Nat.le_refl _) _)).mono ?_
  rintro e w1 ⟨rfl, hb⟩
  have hb1 := ((Below.refl _ w).alloc (Nat.le_refl _) _).trans (hb.mono (by simp))
  go_wp2_with fail
  refine (HB.out _ _).mono ?_
  rintro e w2 ⟨rfl, hb2⟩
  have hb3 := hb.trans (hb2.mono hb.size)
  obtain ⟨hc, hf⟩ := bcell hb3
  have hbw := hb1.trans (hb2.mono hb1.size)
  clear hb hb1 hb2
  unfold faultV
  go_wp2_with fail
  exact bodyPost_ret (v := .agg #[.int .i64 (101 + (i : Int)), .bool false, .int .i64 0]) (by simp [results, Tryd.results9, go_sem, hc]) rfl ⟨rfl, ((hbw.setCell (by simp) _).setCell (by simp) _).setCell (by simp) _⟩

set_option maxHeartbeats 2000000 in
theorem fault_at (A : Nat → Addr) (i : Nat) (b : Nat) (k : Int) (w : World) (h : Sents w A) (hi : i < 7) (h0 : w.cell? ⟨b, 0, none⟩ = some (.int .i64 k)) (h1 : w.cell? ⟨b, 1, none⟩ = some (sentV A i)) :
    Calls Tryd.prog 9 #[.iface 62 (.pointer (some ⟨b, 0, none⟩))] w fun e w' => e = .returned (faultV (101 + (i : Int)) true k) ∧ Below w.heap.size w w' := by
  have HS := Lib.hid (fun W (hW : Below w.heap.size w W) => sentinel_any A i W (h.keep hW) hi)
  have HP := Lib.hid (fun W => placed_any (101 + (i : Int)) k W (by omega))
  have hv : sentV A i = .iface 90 (.pointer (some (A i))) := rfl
  rw [hv] at HS h1
  clear hv
  generalize A i = a at *
  have hblt := World.block_lt_of_cell? w _ h0
  simp only at hblt
  clear h
  have hna := isAt
  go_enter Tryd.func9, Tryd.ntmps9
  go_wp2_with fail
  have hk0 : ∀ W, Below w.heap.size w W → W.cell? ⟨b, 0, none⟩ = some (.int .i64 k) := fun W hW => (hW.cell (p := ⟨b, 0, none⟩) hblt).trans h0
  have hk1 : ∀ W, Below w.heap.size w W → W.cell? ⟨b, 1, none⟩ = some (.iface 90 (.pointer (some a))) := fun W hW => (hW.cell (p := ⟨b, 1, none⟩) hblt).trans h1
  have HK0 := Lib.hid hk0; clear hk0
  have HK1 := Lib.hid hk1; clear hk1
  have hbw0 : Below w.heap.size w (w.alloc (.cells #[.int .i64 0, .bool false, .int .i64 0] 35)) := (Below.refl _ w).alloc (Nat.le_refl _) _
  go_region_with (first
    | (go_at_call 32; refine (HS.out _ (by first | exact hbw0 | exact hbw0.drew)).mono ?_; rintro e w1 ⟨rfl, hb⟩; have hb1 := hbw0.drew.trans (hb.mono (by simp)); have hc0 := HK0.out w1 hb1; have hc1 := HK1.out w1 hb1)
    | (go_at_call 33; refine (HP.out _).mono ?_; rintro e w2 ⟨rfl, hb2⟩; have hb3 := hb.trans (hb2.mono hb.size); have hbw := hb1.trans (hb2.mono hb1.size); clear hb hb1 hb2; obtain ⟨hc, hf⟩ := bcell hb3; unfold faultV))
  all_goals
    go_wp2
    exact bodyPost_ret (v := .agg #[.int .i64 (101 + (i : Int)), .bool true, .int .i64 k]) (by simp [results, Tryd.results9, go_sem, hc]) rfl ⟨rfl, ((hbw.setCell (by simp) _).setCell (by simp) _).setCell (by simp) _⟩

/-- The error value reads, from w on, as this fault. -/
def ErrAs (w : World) (ev : Value) (c : Int) (p : Bool) (k : Int) : Prop :=
  ∀ W, Below w.heap.size w W → Calls Tryd.prog 9 #[ev] W fun e w' => e = .returned (faultV c p k) ∧ Below W.heap.size W w'
theorem errAs_nil (w : World) : ErrAs w .nilIface 0 false 0 := fun W _ => fault_nil W
theorem errAs_sent {A : Nat → Addr} {w : World} (h : Sents w A) (i : Nat) (hi : i < 7) : ErrAs w (sentV A i) (101 + (i : Int)) false 0 := fun W hW => fault_sent A i W (h.keep hW) hi
theorem errAs_at {A : Nat → Addr} {w : World} (h : Sents w A) (i : Nat) (hi : i < 7) (b : Nat) (k : Int) (h0 : w.cell? ⟨b, 0, none⟩ = some (.int .i64 k)) (h1 : w.cell? ⟨b, 1, none⟩ = some (sentV A i)) :
    ErrAs w (.iface 62 (.pointer (some ⟨b, 0, none⟩))) (101 + (i : Int)) true k := fun W hW =>
  fault_at A i b k W (h.keep hW) hi ((hW.cell (p := ⟨b, 0, none⟩) (World.block_lt_of_cell? w _ h0)).trans h0) ((hW.cell (p := ⟨b, 1, none⟩) (World.block_lt_of_cell? w _ h1)).trans h1)
theorem ErrAs.keep {w w' : World} {ev : Value} {c : Int} {p : Bool} {k : Int} (h : ErrAs w ev c p k) (hb : Below w.heap.size w w') : ErrAs w' ev c p k := fun W hW => h W (hb.trans (hW.mono hb.size))

set_option maxHeartbeats 2000000 in
theorem see_yes (ev : Value) (c : Int) (p : Bool) (k : Int) (w : World) (h : ErrAs w ev c p k) : Calls Tryd.prog 37 #[ev, faultV c p k] w fun e w' => e = .returned (.bool true) ∧ Below w.heap.size w w' := by
  have HE := Lib.hid h; clear h
  have HS := Lib.hid (fun W => sameFault_yes c p k W)
  have hbw0 : Below w.heap.size w (w.alloc (.cells #[.int .i64 c, .bool p, .int .i64 k] 35)) := (Below.refl _ w).alloc (Nat.le_refl _) _
  unfold faultV
  unfold ErrAs faultV at HE
  unfold faultV at HS
  go_enter Tryd.func37, Tryd.ntmps37
  go_wp2_with fail
  go_region_with (first
    | (go_at_call 9; refine (HE.out _ (by first | exact hbw0 | exact hbw0.drew)).mono ?_; rintro e w1 ⟨rfl, hb⟩; have hbw := hbw0.drew.trans (hb.mono (by simp)); obtain ⟨hc, hf⟩ := bcell hb)
    | (go_at_call 51; refine (HS.out _).mono ?_; rintro e w2 ⟨rfl, hb2⟩))
  all_goals
    go_wp2
    go_ret
    exact ⟨rfl, hbw.trans (hb2.mono hbw.size)⟩
end Go.Proofs.YtmgepagdkfghlaaDoor

namespace Go.Proofs.YtmgepagdkfghlaaDoor
open Go.RowKit

set_option maxHeartbeats 1000000 in
theorem isE_any (ev : Value) (c : Int) (w : World) (h : ErrAs w ev c false 0) : Calls Tryd.prog 17 #[ev, .int .i64 c] w fun e w' => e = .returned (.bool true) ∧ Below w.heap.size w w' := by
  have HB := Lib.hid (bare_any c w)
  have HS := Lib.hid (fun W (hW : Below w.heap.size w W) => see_yes ev c false 0 W (h.keep hW))
  clear h
  unfold faultV at HB HS
  go_enter Tryd.func17, Tryd.ntmps17
  go_wp2_with fail
  refine HB.out.mono ?_
  rintro e w1 ⟨rfl, hb⟩
  go_wp2_with fail
  refine (HS.out _ hb).mono ?_
  rintro e w2 ⟨rfl, hb2⟩
  go_wp2_with fail
  go_ret
  exact ⟨rfl, hb.trans (hb2.mono hb.size)⟩

set_option maxHeartbeats 1000000 in
theorem gcheck_neg (A : Nat → Addr) (w : World) (hs : Sents2 w A) : Calls Tryd.prog 27 #[.agg #[.int .i64 (-1), .slice none 0 0, .slice none 0 0]] w fun e w' => e = .returned (sentV A 1) ∧ Below w.heap.size w w' := by
  have s1 := (hs.keep ((Below.refl _ w).alloc (Nat.le_refl _) (.cells #[.int .i64 (-1), .slice none 0 0, .slice none 0 0] 25))).c1
  unfold sentV
  clear hs
  go_enter Tryd.func27, Tryd.ntmps27
  go_wp2_with fail
  go_ret
  exact ⟨rfl, (Below.refl _ w).alloc (Nat.le_refl _) _⟩
end Go.Proofs.YtmgepagdkfghlaaDoor

namespace Go.Proofs.YtmgepagdkfghlaaDoor
open Go.RowKit

end Go.Proofs.YtmgepagdkfghlaaDoor

namespace Go.Proofs.YtmgepagdkfghlaaDoor
open Go.RowKit

theorem fldCode13 (c : Int) (p : Bool) (k : Int) (w : World) : (Instr.field 35 (.agg #[.int .i64 c, .bool p, .int .i64 k]) 0).run Tryd.prog w = .ok (.int .i64 c) w := by kernel_rfl
theorem errAs13 {A : Nat → Addr} {w : World} (h : Sents w A) (c : Int) (hc : c = 0 ∨ c = 102 ∨ c = 104) : ErrAs w (errC A c) c false 0 := by
  rcases hc with rfl | rfl | rfl
  · exact errAs_nil w
  · exact errAs_sent h 1 (by decide)
  · exact errAs_sent h 3 (by decide)

theorem tenc_raw (A : Nat → Addr) (n : Int) (u v : Value) (ps : List (Int × Int)) (os : List Int) (w : World) (hs : Sents2 w A) (hu : PRow w u ps) (hv : Row w v os) (hn : in64 n) (hpl : ps.length ≤ 8000) (hol : os.length ≤ 1000000)
    (hpb : ∀ x ∈ ps, in64 x.1 ∧ in64 x.2) (hob : ∀ o ∈ os, in64 o) :
    Calls Tryd.prog 8 #[circV n u v, .slice none 0 0] w fun e w' => (∃ m a L c, e = .returned (.tuple #[.agg #[.int .i64 m, .slice a L c], errC A (checkC n ps os)])) ∧ Below w.heap.size w w' := by
  by_cases hc : checkC n ps os = 0
  · have h0 : 0 ≤ n := by
      unfold checkC at hc
      by_cases h1 : n < 0 ∨ 8000 < n + (ps.length : Int)
      · rw [if_pos h1] at hc; omega
      · omega
    obtain ⟨N, rfl⟩ := Int.eq_ofNat_of_zero_le h0
    refine (tenc_ok A N u v (.slice none 0 0) ps os [] w hs hu hv (Row.nil _) hol hpb hob (by simp) hc (by simp) (by simp)).mono ?_
    rintro e w' ⟨⟨o, rfl, hr⟩, hb⟩
    obtain ⟨a, L, c, rfl⟩ := hr.shape
    exact ⟨⟨_, a, L, c, by rw [hc]⟩, hb⟩
  · refine (tenc_bad A n u v (.slice none 0 0) ps os w hs hu hv hn hpl hol hpb hob hc).mono ?_
    rintro e w' ⟨⟨o, rfl, hr⟩, hb⟩
    obtain ⟨a, L, c, rfl⟩ := hr.shape
    exact ⟨⟨_, a, L, c, rfl⟩, hb⟩
end Go.Proofs.YtmgepagdkfghlaaDoor

namespace Go.Proofs.YtmgepagdkfghlaaDoor
open Go.RowKit

set_option maxRecDepth 8000 in
set_option maxHeartbeats 4000000 in
theorem lawTs_out (A : Nat → Addr) (n : Int) (u v : Value) (ps : List (Int × Int)) (os : List Int) (i : Int) (a2 : Option Addr) (c2 m2 : Nat) (a3 : Option Addr) (c3 m3 : Nat) (nn : Int) (w : World) (hS : Sents w A) (hu : PRow w u ps) (hv : Row w v os) (ho : 60 < ps.length ∨ 30 < os.length ∨ 120 < m2 ∨ 10 < m3 ∨ i < 0 ∨ 30 < i) :
    Calls Tryd.prog 3 #[circV n u v, .int .i64 i, .slice a2 m2 c2, .slice a3 m3 c3, .int .i64 nn] w fun e w' => e = .returned (.bool true) ∧ Below w.heap.size w w' := by
  obtain ⟨a0, c0, rfl, _⟩ := hu
  obtain ⟨a1, c1, rfl, _⟩ := hv
  generalize ps.length = m0 at *
  generalize os.length = m1 at *
  unfold circV
  have HBX := Lib.hid (fun W hW => cirC_box w W n (.slice a0 m0 c0) (.slice a1 m1 c1) hW)
  unfold CirC at HBX
  have HF := Lib.hid (first13_any A (w.alloc (.cells #[.int .i64 n, .slice a0 m0 c0, .slice a1 m1 c1] 25)) (hS.two.keep ((Below.refl _ w).alloc (Nat.le_refl _) _)))
  clear hS
  have HB0 : Hid ((w.alloc (.cells #[.int .i64 n, .slice a0 m0 c0, .slice a1 m1 c1] 25)).heap.size = w.heap.size + 1) := by unfold Hid; simp
  rw [HB0.out] at HF
  by_cases d1 : 60 < m0
  · have d1' : decide (60 < m0) = true := decide_eq_true d1
    clear ho
    go_enter Tryd.func3, Tryd.ntmps3
    go_wp2_with fail
    refine HF.out.mono ?_
    rintro e w1 ⟨rfl, hb1⟩
    obtain ⟨⟨k0, k1, k2⟩, hbw⟩ := HBX.out _ hb1
    go_wp2_with fail
    go_ret
    exact ⟨rfl, hbw⟩
  · have d1' : decide (60 < m0) = false := decide_eq_false d1
    by_cases d2 : 30 < m1
    · have d2' : decide (30 < m1) = true := decide_eq_true d2
      clear ho
      go_enter Tryd.func3, Tryd.ntmps3
      go_wp2_with fail
      refine HF.out.mono ?_
      rintro e w1 ⟨rfl, hb1⟩
      obtain ⟨⟨k0, k1, k2⟩, hbw⟩ := HBX.out _ hb1
      go_wp2_with fail
      go_ret
      exact ⟨rfl, hbw⟩
    · have d2' : decide (30 < m1) = false := decide_eq_false d2
      by_cases d3 : 120 < m2
      · have d3' : decide (120 < m2) = true := decide_eq_true d3
        clear ho
        go_enter Tryd.func3, Tryd.ntmps3
        go_wp2_with fail
        refine HF.out.mono ?_
        rintro e w1 ⟨rfl, hb1⟩
        obtain ⟨⟨k0, k1, k2⟩, hbw⟩ := HBX.out _ hb1
        go_wp2_with fail
        go_ret
        exact ⟨rfl, hbw⟩
      · have d3' : decide (120 < m2) = false := decide_eq_false d3
        by_cases d4 : 10 < m3
        · have d4' : decide (10 < m3) = true := decide_eq_true d4
          clear ho
          go_enter Tryd.func3, Tryd.ntmps3
          go_wp2_with fail
          refine HF.out.mono ?_
          rintro e w1 ⟨rfl, hb1⟩
          obtain ⟨⟨k0, k1, k2⟩, hbw⟩ := HBX.out _ hb1
          go_wp2_with fail
          go_ret
          exact ⟨rfl, hbw⟩
        · have d4' : decide (10 < m3) = false := decide_eq_false d4
          by_cases d5 : i < 0
          · clear ho
            go_enter Tryd.func3, Tryd.ntmps3
            go_wp2_with fail
            refine HF.out.mono ?_
            rintro e w1 ⟨rfl, hb1⟩
            obtain ⟨⟨k0, k1, k2⟩, hbw⟩ := HBX.out _ hb1
            go_wp2_with fail
            go_ret
            exact ⟨rfl, hbw⟩
          · have d6 : 30 < i := by omega
            clear ho
            go_enter Tryd.func3, Tryd.ntmps3
            go_wp2_with fail
            refine HF.out.mono ?_
            rintro e w1 ⟨rfl, hb1⟩
            obtain ⟨⟨k0, k1, k2⟩, hbw⟩ := HBX.out _ hb1
            go_wp2_with fail
            go_ret
            exact ⟨rfl, hbw⟩
end Go.Proofs.YtmgepagdkfghlaaDoor

namespace Go.Proofs.YtmgepagdkfghlaaDoor
open Go.RowKit

def withX (x : Int) (ls : List Int) : List (List Int) := if oneC ls = true then [] else [(if x = 0 then [] else [x]) ++ clauseC ls]
theorem withX_one {x : Int} {ls : List Int} (h : oneC ls = true) : withX x ls = [] := if_pos h
theorem withX_no {x : Int} {ls : List Int} (h : oneC ls = false) : withX x ls = [(if x = 0 then [] else [x]) ++ clauseC ls] := if_neg (by rw [h]; simp)
theorem withX_zero (ls : List Int) : withX 0 ls = withL ls := by unfold withX withL; simp
theorem withX_len (x : Int) (ls : List Int) : (withX x ls).length ≤ 1 := by unfold withX; split <;> simp
theorem withX_odd (n : Int) (ls : List Int) (h : 1 ≤ n) : withX (-n) ls = withL ((2 * n + 1) :: ls) := by
  have e1 : oneC ((2 * n + 1) :: ls) = oneC ls := by unfold oneC; rw [List.any_cons, decide_eq_false (by omega), Bool.false_or]
  have e2 : clauseC ((2 * n + 1) :: ls) = [-n] ++ clauseC ls := by
    show ((2 * n + 1) :: ls).flatMap putC = _
    rw [List.flatMap_cons]
    unfold putC
    rw [if_neg (by omega), litC_odd n h]
    rfl
  unfold withX withL
  rw [e1, e2, if_neg (show ¬ -n = 0 by omega)]
theorem withX_even (n : Int) (ls : List Int) (h : 1 ≤ n) : withX n ls = withL ((2 * n) :: ls) := by
  have e1 : oneC ((2 * n) :: ls) = oneC ls := by unfold oneC; rw [List.any_cons, decide_eq_false (by omega), Bool.false_or]
  have e2 : clauseC ((2 * n) :: ls) = [n] ++ clauseC ls := by
    show ((2 * n) :: ls).flatMap putC = _
    rw [List.flatMap_cons]
    unfold putC
    rw [if_neg (by omega), litC_even n h]
    rfl
  unfold withX withL
  rw [e1, e2, if_neg (show ¬ n = 0 by omega)]
def fxD (n : Int) (k : Nat) : Int := [-n, -n, n].getD k 0
def rlD (a b : Int) (k : Nat) : List Int := [[a], [b], [notI a, notI b]].getD k []
/-- The first k clauses of a gate. -/
def partD (n a b : Int) (k : Nat) : List (List Int) := (List.range k).flatMap fun i => withX (fxD n i) (rlD a b i)
theorem partD_zero (n a b : Int) : partD n a b 0 = [] := rfl
theorem partD_succ (n a b : Int) (k : Nat) : partD n a b (k + 1) = partD n a b k ++ withX (fxD n k) (rlD a b k) := by
  unfold partD; rw [List.range_succ, List.flatMap_append]; simp
theorem partD_three (n a b : Int) (h : 1 ≤ n) : partD n a b 3 = gateC (2 * n) a b := by
  rw [partD_succ, partD_succ, partD_succ, partD_zero]
  show ((([] : List (List Int)) ++ withX (-n) [a]) ++ withX (-n) [b]) ++ withX n [notI a, notI b] = _
  rw [withX_odd n _ h, withX_odd n _ h, withX_even n _ h]
  unfold gateC
  simp
theorem partD_len (n a b : Int) : ∀ k, (partD n a b k).length ≤ k
  | 0 => by rw [partD_zero]; simp
  | k + 1 => by
    rw [partD_succ, List.length_append]
    have := partD_len n a b k
    have := withX_len (fxD n k) (rlD a b k)
    omega
theorem rlD_ok {a b : Int} (ha : 0 ≤ a ∧ a < 100000) (hb : 0 ≤ b ∧ b < 100000) (k : Nat) : (rlD a b k).length ≤ 10 ∧ ∀ l ∈ rlD a b k, 0 ≤ l ∧ l < 1000000 := by
  have na := notI_nat ha.1
  have nb := notI_nat hb.1
  match k with
  | 0 => exact ⟨by simp [rlD], by intro l hl; simp [rlD] at hl; omega⟩
  | 1 => exact ⟨by simp [rlD], by intro l hl; simp [rlD] at hl; omega⟩
  | 2 => exact ⟨by simp [rlD], by intro l hl; simp [rlD] at hl; omega⟩
  | k + 3 => exact ⟨by simp [rlD], by intro l hl; simp [rlD] at hl⟩

/-- The rows that Encode lays for a gate: the first literals at f, the others at f + 1, f + 2, f + 3, the row of these at f + 4. -/
structure RD (W : World) (f : Nat) (n a b : Int) : Prop where
  first : ∀ k, k < 3 → W.cell? ⟨f, k, none⟩ = some (.int .i64 (fxD n k))
  rest : ∀ k, k < 3 → W.cell? ⟨f + 4, k, none⟩ = some (.slice (some ⟨f + 1 + k, 0, none⟩) (rlD a b k).length (rlD a b k).length)
  lits : ∀ k, k < 3 → ∀ i, i < (rlD a b k).length → W.cell? ⟨f + 1 + k, i, none⟩ = some (.int .i64 ((rlD a b k).getD i 0))
  sz : f + 5 ≤ W.heap.size
theorem RD.move {W W' : World} {f : Nat} {n a b : Int} (h : RD W f n a b) (hs : W.heap.size ≤ W'.heap.size) (hb : ∀ i, f ≤ i → i < f + 5 → W'.heap[i]? = W.heap[i]?) : RD W' f n a b where
  first := fun k hk => (World.cell?_of_block (a := ⟨f, k, none⟩) (hb f (Nat.le_refl _) (by omega))).trans (h.first k hk)
  rest := fun k hk => (World.cell?_of_block (a := ⟨f + 4, k, none⟩) (hb (f + 4) (by omega) (by omega))).trans (h.rest k hk)
  lits := fun k hk i hi => (World.cell?_of_block (a := ⟨f + 1 + k, i, none⟩) (hb (f + 1 + k) (by omega) (by omega))).trans (h.lits k hk i hi)
  sz := Nat.le_trans h.sz hs
theorem RD.keep {W W' : World} {f : Nat} {n a b : Int} (h : RD W f n a b) (hb : Below W.heap.size W W') : RD W' f n a b := h.move hb.size fun i _ h2 => hb.block i (Nat.lt_of_lt_of_le h2 h.sz)
theorem RD.row {W : World} {f : Nat} {n a b : Int} (h : RD W f n a b) (k : Nat) (hk : k < 3) (hl : (rlD a b k).length ≤ 10) : Row W (.slice (some ⟨f + 1 + k, 0, none⟩) (rlD a b k).length (rlD a b k).length) (rlD a b k) :=
  ⟨_, _, rfl, Nat.le_refl _, by unfold maxLen; omega, .inr ⟨f + 1 + k, 0, rfl, by have := h.sz; omega, fun i hi => by rw [Nat.zero_add]; exact h.lits k hk i hi⟩⟩
theorem RD.start (W : World) (n a b : Int) (T : TypeId) : RD (((((W.alloc (.cells #[.int .i64 (-n), .int .i64 (-n), .int .i64 n] 3)).alloc (.cells #[.int .i64 a] 3)).alloc (.cells #[.int .i64 b] 3)).alloc (.cells #[.int .i64 (notI a), .int .i64 (notI b)] 3)).alloc
    (.cells #[.slice (some ⟨W.heap.size + 1, 0, none⟩) 1 1, .slice (some ⟨W.heap.size + 2, 0, none⟩) 1 1, .slice (some ⟨W.heap.size + 3, 0, none⟩) 2 2] T)) W.heap.size n a b := by
  obtain ⟨W1, h1⟩ : ∃ W1, W1 = W.alloc (.cells #[.int .i64 (-n), .int .i64 (-n), .int .i64 n] 3) := ⟨_, rfl⟩
  obtain ⟨W2, h2⟩ : ∃ W2, W2 = W1.alloc (.cells #[.int .i64 a] 3) := ⟨_, rfl⟩
  obtain ⟨W3, h3⟩ : ∃ W3, W3 = W2.alloc (.cells #[.int .i64 b] 3) := ⟨_, rfl⟩
  obtain ⟨W4, h4⟩ : ∃ W4, W4 = W3.alloc (.cells #[.int .i64 (notI a), .int .i64 (notI b)] 3) := ⟨_, rfl⟩
  obtain ⟨W5, h5⟩ : ∃ W5, W5 = W4.alloc (.cells #[.slice (some ⟨W.heap.size + 1, 0, none⟩) 1 1, .slice (some ⟨W.heap.size + 2, 0, none⟩) 1 1, .slice (some ⟨W.heap.size + 3, 0, none⟩) 2 2] T) := ⟨_, rfl⟩
  rw [← h1, ← h2, ← h3, ← h4, ← h5]
  have s1 : W1.heap.size = W.heap.size + 1 := by rw [h1]; simp
  have s2 : W2.heap.size = W.heap.size + 2 := by rw [h2]; simp [s1]
  have s3 : W3.heap.size = W.heap.size + 3 := by rw [h3]; simp [s2]
  have s4 : W4.heap.size = W.heap.size + 4 := by rw [h4]; simp [s3]
  have s5 : W5.heap.size = W.heap.size + 5 := by rw [h5]; simp [s4]
  have b2 : Below W1.heap.size W1 W2 := by rw [h2]; exact (Below.refl _ _).alloc (Nat.le_refl _) _
  have b3 : Below W2.heap.size W2 W3 := by rw [h3]; exact (Below.refl _ _).alloc (Nat.le_refl _) _
  have b4 : Below W3.heap.size W3 W4 := by rw [h4]; exact (Below.refl _ _).alloc (Nat.le_refl _) _
  have b5 : Below W4.heap.size W4 W5 := by rw [h5]; exact (Below.refl _ _).alloc (Nat.le_refl _) _
  have b45 := b5
  have b35 := b4.trans (b5.mono b4.size)
  have b25 := b3.trans (b35.mono b3.size)
  have b15 := b2.trans (b25.mono b2.size)
  have n1 : W1.heap[W.heap.size]? = some (.cells #[.int .i64 (-n), .int .i64 (-n), .int .i64 n] 3 (0, 0)) := by rw [h1]; exact heap_alloc_new _ _
  have n2 : W2.heap[W1.heap.size]? = some (.cells #[.int .i64 a] 3 (0, 0)) := by rw [h2]; exact heap_alloc_new _ _
  have n3 : W3.heap[W2.heap.size]? = some (.cells #[.int .i64 b] 3 (0, 0)) := by rw [h3]; exact heap_alloc_new _ _
  have n4 : W4.heap[W3.heap.size]? = some (.cells #[.int .i64 (notI a), .int .i64 (notI b)] 3 (0, 0)) := by rw [h4]; exact heap_alloc_new _ _
  have n5 : W5.heap[W4.heap.size]? = some (.cells #[.slice (some ⟨W.heap.size + 1, 0, none⟩) 1 1, .slice (some ⟨W.heap.size + 2, 0, none⟩) 1 1, .slice (some ⟨W.heap.size + 3, 0, none⟩) 2 2] T (0, 0)) := by rw [h5]; exact heap_alloc_new _ _
  rw [s1] at n2; rw [s2] at n3; rw [s3] at n4; rw [s4] at n5
  clear h1 h2 h3 h4 h5
  refine ⟨fun k hk => ?_, fun k hk => ?_, fun k hk i hi => ?_, by omega⟩
  · rw [b15.cell (p := ⟨W.heap.size, k, none⟩) (by show W.heap.size < _; omega), cell_of_row _ _ k _ _ (0, 0) n1]
    match k, hk with
    | 0, _ => rfl
    | 1, _ => rfl
    | 2, _ => rfl
  · rw [cell_of_row _ _ k _ _ (0, 0) n5]
    match k, hk with
    | 0, _ => rfl
    | 1, _ => rfl
    | 2, _ => rfl
  · match k, hk with
    | 0, _ =>
      rw [b25.cell (p := ⟨W.heap.size + 1 + 0, i, none⟩) (by show W.heap.size + 1 + 0 < _; omega), cell_of_row _ _ i _ _ (0, 0) n2]
      match i, hi with
      | 0, _ => rfl
    | 1, _ =>
      rw [b35.cell (p := ⟨W.heap.size + 1 + 1, i, none⟩) (by show W.heap.size + 1 + 1 < _; omega), cell_of_row _ _ i _ _ (0, 0) n3]
      match i, hi with
      | 0, _ => rfl
    | 2, _ =>
      rw [b45.cell (p := ⟨W.heap.size + 1 + 2, i, none⟩) (by show W.heap.size + 1 + 2 < _; omega), cell_of_row _ _ i _ _ (0, 0) n4]
      match i, hi with
      | 0, _ => rfl
      | 1, _ => rfl
end Go.Proofs.YtmgepagdkfghlaaDoor

namespace Go.Proofs.YtmgepagdkfghlaaDoor
open Go.RowKit

/-- The clauses' variable, and a gate's rows beside it. -/
structure GD (w2 : World) (q : Nat) (m : Int) (o : Value) (xss : List (List Int)) (f : Nat) (n a b : Int) (W : World) : Prop where
  ev : EV w2 q m o xss W
  rd : RD W f n a b
  sep : ∀ g, o.ownBlock = some g → g < f ∨ f + 5 ≤ g
  lt : q < f
theorem GD.keep {w2 W W' : World} {q f : Nat} {m n a b : Int} {o : Value} {xss : List (List Int)} (h : GD w2 q m o xss f n a b W) (hb : Below W.heap.size W W') : GD w2 q m o xss f n a b W' := ⟨h.ev.keep hb, h.rd.keep hb, h.sep, h.lt⟩
theorem GD.app {w2 W w3 w4 : World} {q f : Nat} {m n a b : Int} {o o' : Value} {xss yss : List (List Int)} (h : GD w2 q m o xss f n a b W) (hb : Below W.heap.size W w3) (ha : App (q + 1) w3 w4 o o') (hr : CRow w4 (q + 1) o' yss) :
    (w4.cell? ⟨q, 1, none⟩ = some o ∧ (∀ k, w4.frozen? ⟨q, k, none⟩ = false) ∧ q < w4.heap.size) ∧ GD w2 q m o' yss f n a b (w4.setCell ⟨q, 1, none⟩ o') := by
  have h3 := h.keep hb
  obtain ⟨⟨_, c1, fr, lt⟩, hev⟩ := h.ev.with hb hr ha.below
  refine ⟨⟨c1, fr, lt⟩, hev, ?_, ?_, h.lt⟩
  · refine (h3.rd.move ha.below.size fun i h1 h2 => ha.other i (Nat.lt_of_lt_of_le h2 h3.rd.sz) fun e => ?_).move (by simp) fun i h1 h2 => Below.heap_setCell _ _ _ _ (by have := h.lt; show i ≠ q; omega)
    have := h.sep i e.symm
    omega
  · intro g e
    rcases ha.blk with e2 | ⟨g', e2, hg⟩
    · rw [e2] at e; exact h.sep g e
    · rw [e2] at e
      injection e with e
      have := h3.rd.sz
      omega
theorem ev_sep {w2 W : World} {q : Nat} {m : Int} {o : Value} {xss : List (List Int)} (h : EV w2 q m o xss W) : ∀ g, o.ownBlock = some g → g < W.heap.size := fun g e => by
  obtain ⟨c, vs, cur, hc⟩ := h.row
  exact own_ltG hc.out e

set_option maxRecDepth 8000 in
set_option maxHeartbeats 4000000 in
theorem renc_any (N : Nat) (u v f : Value) (ps : List (Int × Int)) (os fs : List Int) (w : World) (hu : PRow w u ps) (hv : Row w v os) (hf : Row w f fs)
    (hc : checkC (N : Int) ps os = 0) (hok : fs.all (okO (N + ps.length)) = true) (hfl : fs.length ≤ 1000) :
    Calls Tryd.prog 16 #[circV (N : Int) u v, f] w fun e w' => (∃ o, e = .returned (.agg #[.int .i64 ((N : Int) + (ps.length : Int)), o]) ∧ CRow w' w.heap.size o (encC N ps fs)) ∧ Below w.heap.size w w' := by
  obtain ⟨hnm, hokp, _⟩ := check_zero8 hc
  obtain ⟨a1, c1, rfl, hu1, hu2, hu3⟩ := hu
  obtain ⟨a2, c2, rfl, hv1, hv2, hv3⟩ := hv
  obtain ⟨a3, c3, rfl, hf1, hf2, hf3⟩ := hf
  unfold maxLen at hf2 hu2
  have HF := Lib.hid hf3
  have HU := Lib.hid hu3
  have HES := Lib.hid (ES.start w (N : Int) (.slice a1 ps.length c1) (.slice a2 os.length c2) 25 29)
  have HB := Lib.hid (es_bel w (.cells #[.int .i64 (N : Int), .slice a1 ps.length c1, .slice a2 os.length c2] 25) (.cells #[.int .i64 0, .slice none 0 0] 29))
  have HOKP := Lib.hid hokp
  have HFN : Hid (∀ k, k < fs.length → 0 ≤ fs.getD k 0 ∧ fs.getD k 0 / 2 ≤ ((N + ps.length : Nat) : Int)) := fun k hk => (okO_iff _ _).1 (List.all_eq_true.1 hok _ (by simp [List.getD, hk]))
  have HGN := Lib.hid (fun k => gatesC_succ N ps k)
  have HFT := Lib.hid (fun k hk => forceC_take fs k hk)
  have HGL := Lib.hid (fun k => gatesC_len N ps k)
  have HFL := Lib.hid (fun k => forceC_len (fs.take k))
  have HTE : Hid (fs.take fs.length = fs) := List.take_length
  have HEN : Hid (encC N ps fs = gatesC N ps ps.length ++ forceC fs) := rfl
  generalize encC N ps fs = fin at *
  clear hv1 hv2 hv3 hf3 hu3 hc hokp hok
  unfold circV at *
  generalize ps.length = m at *
  generalize os.length = l at *
  generalize hr : fs.length = r at *
  have HR := Lib.hid hr; clear hr
  go_enter Tryd.func16, Tryd.ntmps16
  go_upto_region 1 with fail
  generalize (w.alloc (.cells #[.int .i64 (N : Int), .slice a1 m c1, .slice a2 l c2] 25)).alloc (.cells #[.int .i64 0, .slice none 0 0] 29) = w1 at *
  have HV1 := Lib.hid (EV.start w1 ((N : Int) + (m : Int)) 29)
  have HQ1 : Hid (w.heap.size + 2 ≤ w1.heap.size) := HES.out.sz
  obtain ⟨z0, z1, z2, r0, r1, rf, rs⟩ := HES.out
  go_wp2_with fail
  clear z0 z1 z2 r0 r1 rf rs
  generalize hw2 : w1.alloc (.cells #[.int .i64 ((N : Int) + (m : Int)), .slice none 0 0] 29) = w2 at *
  have HEV2 : Hid (EV w1 w1.heap.size ((N : Int) + (m : Int)) (.slice none 0 0) (gatesC N ps 0) w2) := HV1.out
  clear hw2
  go_loopw [6, 7, 8, 9, 10, 11, 12, 13, 14] (fun i _ _ _ _ _ _ _ _ wr => ∃ (j : Nat) (o : Value), j ≤ m ∧ i = .int .i64 (j : Int) ∧ EV w1 w1.heap.size ((N : Int) + (m : Int)) o (gatesC N ps j) wr) (fun i _ _ _ _ _ _ _ _ _ => m - (intOf i).toNat)
  case atStart => exact ⟨0, _, Nat.zero_le _, rfl, HEV2.out⟩
  case round =>
    obtain ⟨j, o, hj, rfl, hev⟩ := hrel
    clear HEV2 HV1
    have HV := Lib.hid hev
    have HEW := Lib.hid (HES.out.below (hev.bel.mono HQ1.out))
    have HBW := Lib.hid (HB.out.trans (hev.bel.mono (by have := HQ1.out; omega)))
    obtain ⟨z0, z1, z2, r0, r1, rf, rs⟩ := HEW.out
    clear hev
    by_cases hlt : j < m
    · obtain ⟨b, off, ha, hbl, hcl⟩ := HU.out.resolve_left (by omega)
      subst ha
      obtain ⟨x0, x1⟩ := hcl j hlt
      have y0 := (HBW.out.cell (p := ⟨b, off + j * 2, none⟩) hbl).trans x0
      have y1 := (HBW.out.cell (p := ⟨b, off + j * 2 + 1, none⟩) hbl).trans x1
      obtain ⟨o1, o2, o3⟩ := (okP_iff _ _ _).1 (HOKP.out j hlt)
      have HGJ := Lib.hid (HGN.out j)
      clear hcl x0 x1
      generalize (ps.getD j (0, 0)) = xy at *
      obtain ⟨x, y⟩ := xy
      simp only at o1 o2 o3 y0 y1 HGJ
      have xx := xor_oneI x (by omega) (by omega)
      have xy := xor_oneI y (by omega) (by omega)
      go_upto_region 6 with fail
      have HNN : Hid (2 * ((N : Int) + (j : Int) + 1) = 2 * ((N : Int) + (j : Int) + 1)) := rfl
      have hnb : 1 ≤ (N : Int) + (j : Int) + 1 ∧ (N : Int) + (j : Int) + 1 ≤ 20000 := by omega
      generalize (N : Int) + (j : Int) + 1 = n at *
      obtain ⟨n1, n2⟩ := hnb
      go_upto_region 10 with fail
      have HWP : Hid (∃ WP : World, WP = (((((wr.alloc (.cells #[.int .i64 (-n), .int .i64 (-n), .int .i64 n] 3)).alloc (.cells #[.int .i64 x] 3)).alloc (.cells #[.int .i64 y] 3)).alloc (.cells #[.int .i64 (notI x), .int .i64 (notI y)] 3)).alloc
        (.cells #[.slice (some ⟨wr.heap.size + 1, 0, none⟩) 1 1, .slice (some ⟨wr.heap.size + 1 + 1, 0, none⟩) 1 1, .slice (some ⟨wr.heap.size + 1 + 1 + 1, 0, none⟩) 2 2] 23))) := ⟨_, rfl⟩
      obtain ⟨WP, hWP⟩ := HWP.out
      rw [← hWP]
      have hBP : Below wr.heap.size wr WP := by rw [hWP]; exact (((((Below.refl _ _).alloc (Nat.le_refl _) _).alloc (by simp) _).alloc (by simp; omega) _).alloc (by simp; omega) _).alloc (by simp; omega) _
      have HRD : Hid (RD WP wr.heap.size n x y) := by rw [hWP]; exact RD.start wr n x y 23
      have HGD : Hid (GD w1 w1.heap.size ((N : Int) + (m : Int)) o (gatesC N ps j ++ partD n x y 0) wr.heap.size n x y WP) := ⟨by rw [partD_zero, List.append_nil]; exact HV.out.keep hBP, HRD.out, fun g e => .inl (ev_sep HV.out g e), HV.out.lt⟩
      have HXL : Hid ((gatesC N ps j).length ≤ 30000) := by have := HGL.out j; unfold Hid; omega
      have HPL := Lib.hid (fun t => partD_len n x y t)
      have HPS := Lib.hid (fun t => partD_succ n x y t)
      have HP3 := Lib.hid (partD_three n x y n1)
      rw [← HNN.out] at HP3
      have HLO := Lib.hid (fun t => rlD_ok (a := x) (b := y) (by omega) (by omega) t)
      have hfx : ∀ t, t < 3 → in64 (fxD n t) := fun t ht => by
        match t, ht with
        | 0, _ => exact ⟨by show -9223372036854775808 ≤ -n; omega, by show -n ≤ 9223372036854775807; omega⟩
        | 1, _ => exact ⟨by show -9223372036854775808 ≤ -n; omega, by show -n ≤ 9223372036854775807; omega⟩
        | 2, _ => exact ⟨by show -9223372036854775808 ≤ n; omega, by show n ≤ 9223372036854775807; omega⟩
      have HFX := Lib.hid hfx
      have HGJ2 : Hid (gatesC N ps j ++ partD n x y 3 = gatesC N ps (j + 1)) := by unfold Hid; rw [HGJ.out, HP3.out]
      generalize hf4 : wr.heap.size + 1 + 1 + 1 + 1 = f4 at *
      generalize hfq : wr.heap.size = fq at *
      have HF4 : Hid (f4 = fq + 4) := by unfold Hid; omega
      clear hWP HWP hf4 hBP HRD HV HEW HBW z0 z1 z2 r0 r1 rf rs y0 y1 hfx xx xy HNN HP3 HGJ hfq
      go_wp2_with fail
      go_loopg [12, 13, 14] 3 (fun gh i _ _ wi => ∃ (t : Nat) (o : Value), t ≤ 3 ∧ gh = 3 - t ∧ i = .int .i64 (t : Int) ∧ GD w1 w1.heap.size ((N : Int) + (m : Int)) o (gatesC N ps j ++ partD n x y t) fq n x y wi)
      case atStart => exact ⟨0, _, by omega, rfl, rfl, HGD.out⟩
      case round =>
        obtain ⟨t, oi, ht, rfl, rfl, hgd⟩ := hrel
        clear HGD
        rename World => wi
        obtain ⟨ai, li, ci, rfl⟩ := hgd.ev.row.shape
        have HG := Lib.hid hgd
        clear hgd
        by_cases hlt3 : t < 3
        · have hl := HLO.out t
          have g1 := HG.out.rd.first t hlt3
          have g2 := HG.out.rd.rest t hlt3
          rw [← HF4.out] at g2
          have HCL := Lib.hid (fun W (hW : Below wi.heap.size wi W) => clause_any (fxD n t) _ (rlD x y t) W ((HG.out.rd.keep hW).row t hlt3 hl.1) (HFX.out t hlt3) hl.1 hl.2)
          have HPT := Lib.hid (HPS.out t)
          have hxl : (gatesC N ps j ++ partD n x y t).length ≤ 40000 := by
            have := HXL.out
            have := HPL.out t
            rw [List.length_append]; omega
          have HXT := Lib.hid hxl
          have hV0 : Below wi.heap.size wi wi.drew := (Below.refl _ _).drew
          have HGK := Lib.hid (fun W (hW : Below wi.heap.size wi W) => And.intro ((hW.cell (p := ⟨fq, t, none⟩) (World.block_lt_of_cell? _ _ g1)).trans g1) ((hW.cell (p := ⟨f4, t, none⟩) (World.block_lt_of_cell? _ _ g2)).trans g2))
          have HG0 := Lib.hid (And.intro g1 g2)
          have HG1 := Lib.hid (HGK.out _ hV0)
          clear hl hxl
          cases h1 : oneC (rlD x y t) with
          | true =>
            have HW1 := Lib.hid (withX_one (x := fxD n t) h1)
            unfold ClausePost at HCL
            rw [h1] at HCL
            generalize rlD x y t = rl at *
            generalize rl.length = rn at *
            generalize fxD n t = fx at *
            clear h1
            go_upto_region 13 with fail
            clear g1 g2
            go_region_held3 (fun W => W.cell? ⟨fq, t, none⟩ = some (.int .i64 fx) ∧ W.cell? ⟨f4, t, none⟩ = some (.slice (some ⟨fq + 1 + t, 0, none⟩) rn rn)) (first | (with_reducible exact HG0.out) | (with_reducible exact HG1.out) | (with_reducible exact HG3.out)) (first
              | (go_simp; go_at_call 36; refine (HCL.out _ hV0).mono ?_; rintro e w3 ⟨⟨z, cur, rfl, hz, hzc⟩, hb3⟩; have HG3 := Lib.hid (HGK.out _ (hV0.trans (hb3.mono hV0.size))); have HGD3 := Lib.hid (HG.out.keep (hV0.trans (hb3.mono hV0.size))); obtain ⟨az, cz, rfl, _, _⟩ := own_shape hz; clear hz hzc hb3))
            all_goals
              go_wp2_with fail
              go_roundg (3 - (t + 1))
              case measure => omega
              case rel => exact ⟨t + 1, _, by omega, rfl, by go_num, by rw [HPT.out, HW1.out, List.append_nil]; exact HGD3.out⟩
          | false =>
            have HW1 := Lib.hid (withX_no (x := fxD n t) h1)
            unfold ClausePost at HCL
            rw [h1] at HCL
            generalize rlD x y t = rl at *
            generalize rl.length = rn at *
            generalize fxD n t = fx at *
            clear h1
            go_upto_region 13 with fail
            clear g1 g2
            go_region_held3 (fun W => W.cell? ⟨fq, t, none⟩ = some (.int .i64 fx) ∧ W.cell? ⟨f4, t, none⟩ = some (.slice (some ⟨fq + 1 + t, 0, none⟩) rn rn)) (first | (with_reducible exact HG0.out) | (with_reducible exact HG1.out) | (with_reducible exact HG3.out)) (first
              | (go_simp; go_at_call 36; refine (HCL.out _ hV0).mono ?_; rintro e w3 ⟨⟨z, cur, rfl, hz, hzc⟩, hb3⟩; have HG3 := Lib.hid (HGK.out _ (hV0.trans (hb3.mono hV0.size))); have HB3 := Lib.hid (hV0.trans (hb3.mono hV0.size)); have HE := Lib.hid (hzc rfl); have HJ := Lib.hid ((HG.out.keep hV0).ev.row.join hb3 (by have := HG.out.ev.lt; show _ ≤ wi.heap.size; omega) hz); obtain ⟨az, cz, rfl, _, _⟩ := own_shape hz; clear hz hzc hb3))
            all_goals
              obtain ⟨vs, hcg⟩ := HJ.out
              have hxn := HXT.out
              have hg3 := HG.out.keep HB3.out
              have k1 := hg3.ev.c1
              have hsz3 : w1.heap.size + 1 ≤ w3.heap.size := hg3.ev.lt
              have hco := hcg.out
              clear hg3
              generalize hxs : (gatesC N ps j ++ partD n x y t).length = xn at *
              go_wp2_with (at_builtin; refine wpList_appV 27 23 (.slice none 0 0) 24 Tryd.underlying27 infoInts rfl (by decide) rfl _ _ rfl w3 (w1.heap.size + 1) _ _ _ _ rfl hco hsz3 (by omega) _ rfl rfl rfl ?_; intro o' w4 ho4 hap4; have hI4 := hcg.push hap4 (by rw [hxs]; exact ho4); obtain ⟨⟨f1, ff, fl⟩, hgd4⟩ := HG.out.app HB3.out hap4 ⟨_, _, _, hI4⟩; have HI4 := Lib.hid hgd4; obtain ⟨a4, l4, c4, rfl⟩ := hgd4.ev.row.shape; clear hI4 hgd4 ho4 hap4)
              go_roundg (3 - (t + 1))
              case measure => omega
              case rel => exact ⟨t + 1, _, by omega, rfl, by go_num, by rw [HPT.out, HW1.out, ← HE.out, ← List.append_assoc]; exact HI4.out⟩
        · have ht3 : t = 3 := by omega
          subst ht3
          have HN := Lib.hid HG.out.ev
          rw [HGJ2.out] at HN
          clear HG HGJ2 HLO HFX HPS HPL
          go_wp2_with fail
          go_roundw
          case rel => exact ⟨j + 1, _, by omega, by go_num, HN.out⟩
          case measure => simp [intOf]; omega
    · have hjm : j = m := by omega
      subst hjm
      have HV3 : Hid (EV w1 w1.heap.size ((N : Int) + (j : Int)) o (gatesC N ps j ++ forceC (fs.take 0)) wr) := by rw [List.take_zero, show forceC [] = [] from rfl, List.append_nil]; exact HV.out
      have HX3 : Hid (∀ t, (gatesC N ps j ++ forceC (fs.take t)).length ≤ 40000) := fun t => by
        have h1 := HGL.out j
        have h2 := HFL.out t
        rw [List.length_take, HR.out] at h2
        rw [List.length_append]
        omega
      clear hlt hj HBW HEW HOKP HGN HGL HFL HV
      go_wp2_with fail
      clear z0 z1 z2 r0 r1 rf rs
      go_loopw [15, 16, 17] (fun i _ _ wr3 => ∃ (t : Nat) (o : Value), t ≤ r ∧ i = .int .i64 (t : Int) ∧ EV w1 w1.heap.size ((N : Int) + (j : Int)) o (gatesC N ps j ++ forceC (fs.take t)) wr3) (fun i _ _ _ => r - (intOf i).toNat)
      case atStart => exact ⟨0, _, Nat.zero_le _, rfl, HV3.out⟩
      case round =>
        obtain ⟨t, o3, ht, rfl, hev⟩ := hrel
        clear HV3
        rename World => wi
        obtain ⟨ai, li, ci, rfl⟩ := hev.row.shape
        have HV := Lib.hid hev
        have HEW := Lib.hid (HES.out.below (hev.bel.mono HQ1.out))
        have HBW := Lib.hid (HB.out.trans (hev.bel.mono (by have := HQ1.out; omega)))
        obtain ⟨e0, e1, ef, el, _, _⟩ := hev
        by_cases hlt3 : t < r
        · obtain ⟨b, off, ha, hbl, hcl⟩ := HF.out.resolve_left (by omega)
          subst ha
          have y0 := (HBW.out.cell (p := ⟨b, off + t, none⟩) hbl).trans (hcl t hlt3)
          have hi2 := HFN.out t hlt3
          have HT := Lib.hid (HFT.out t hlt3)
          have hxl := HX3.out t
          clear hcl
          generalize fs.getD t 0 = y at *
          have hVA : Below wi.heap.size wi (wi.alloc (.cells ([y].map (Value.int .i64)).toArray 3)) := (Below.refl _ _).alloc (Nat.le_refl _) _
          have HROW := Lib.hid (row_lit13 wi [y] (by simp))
          have HCL := Lib.hid (clause_any 0 (.slice (some ⟨wi.heap.size, 0, none⟩) 1 1) [y] _ HROW.out ⟨by omega, by omega⟩ (by simp) (by intro z hz; simp at hz; omega))
          have HVA := Lib.hid hVA
          have HSA : Hid (w1.heap.size + 1 ≤ (wi.alloc (.cells ([y].map (Value.int .i64)).toArray 3)).heap.size) := by have := HV.out.lt; unfold Hid; simp; omega
          generalize hxs : (gatesC N ps j ++ forceC (fs.take t)).length = xn at *
          have HXS := Lib.hid hxs
          clear hVA hi2 hxs
          unfold ClausePost at HCL
          cases h1 : oneC [y] with
          | true =>
            have HW1 := Lib.hid (withL_one h1)
            rw [h1] at HCL
            clear h1 e0 e1 ef el
            go_wp2_with (go_at_call 36; refine HCL.out.mono ?_; rintro e w3 ⟨⟨z, cur, rfl, hz, hzc⟩, hb3⟩; have HEV3 := Lib.hid (HV.out.keep (HVA.out.trans (hb3.mono HVA.out.size))); obtain ⟨az, cz, rfl, _, _⟩ := own_shape hz; clear hz hzc hb3)
            go_roundw
            case rel => exact ⟨t + 1, _, by omega, by go_num, by rw [HT.out, HW1.out, List.append_nil]; exact HEV3.out⟩
            case measure => simp [intOf]; omega
          | false =>
            have HW1 := Lib.hid (withL_no h1)
            rw [h1] at HCL
            clear h1 e0 e1 ef el
            go_wp2_with (first
              | (go_at_call 36; refine HCL.out.mono ?_; rintro e w3 ⟨⟨z, cur, rfl, hz, hzc⟩, hb3⟩; have HB3 := Lib.hid (HVA.out.trans (hb3.mono HVA.out.size)); have HE := Lib.hid (show cur = clauseC [y] from hzc rfl); obtain ⟨vs, hcg⟩ := (HV.out.keep HVA.out).row.join hb3 HSA.out hz; have hco := hcg.out; rw [HXS.out] at hco; obtain ⟨k0, k1, kf, kl, _, _⟩ := HV.out.keep HB3.out; have hsz3 : w1.heap.size + 1 ≤ w3.heap.size := kl; obtain ⟨az, cz, rfl, _, _⟩ := own_shape hz; clear hz hzc hb3)
              | (at_builtin; refine wpList_appV 27 23 (.slice none 0 0) 24 Tryd.underlying27 infoInts rfl (by decide) rfl _ _ rfl w3 (w1.heap.size + 1) _ _ _ _ rfl hco hsz3 (by omega) _ rfl rfl rfl ?_; intro o' w4 ho4 hap4; have hI4 := hcg.push hap4 (by rw [HXS.out]; exact ho4); obtain ⟨⟨f0, f1, ff, fl⟩, hev4⟩ := HV.out.with HB3.out ⟨_, _, _, hI4⟩ hap4.below; have HI4 := Lib.hid hev4; obtain ⟨a4, l4, c4, rfl⟩ := hev4.row.shape; clear hI4 hev4 ho4 hap4))
            go_roundw
            case rel => exact ⟨t + 1, _, by omega, by go_num, by rw [HT.out, HW1.out, ← HE.out, ← List.append_assoc]; exact HI4.out⟩
            case measure => simp [intOf]; omega
        · have htk : t = r := by omega
          subst htk
          have HFIN : Hid (gatesC N ps j ++ forceC (fs.take t) = fin) := by unfold Hid; rw [HTE.out, HEN.out]
          rw [HFIN.out] at HV
          obtain ⟨_, _, _, r0, r1, rf, rs⟩ := HEW.out
          clear HFN HFT HX3 HFIN
          go_wp2_with fail
          exact bodyPost_ret (v := .agg #[.int .i64 ((N : Int) + (j : Int)), .slice ai li ci]) (by simp [results, Tryd.results16, go_sem, r0, r1]) rfl ⟨⟨_, rfl, ((HV.out.row.set (w.heap.size + 1) 0 _ (by have := HQ1.out; omega)).set (w.heap.size + 1) 1 _ (by have := HQ1.out; omega)).mono (by have := HQ1.out; omega)⟩, (HBW.out.setCell (by simp) _).setCell (by simp) _⟩
end Go.Proofs.YtmgepagdkfghlaaDoor

namespace Go.Proofs.YtmgepagdkfghlaaDoor
open Go.RowKit

set_option maxRecDepth 8000 in
set_option maxHeartbeats 4000000 in
theorem rcheck_any (n : Int) (u v : Value) (ps : List (Int × Int)) (os : List Int) (w : World) (hu : PRow w u ps) (hv : Row w v os) (hn : in64 n) (hpl : ps.length ≤ 8000) (hol : os.length ≤ 1000000)
    (hpb : ∀ x ∈ ps, in64 x.1 ∧ in64 x.2) (hob : ∀ o ∈ os, in64 o) :
    Calls Tryd.prog 10 #[circV n u v] w fun e w' => e = .returned (.int .i64 (checkC n ps os)) ∧ Below w.heap.size w w' := by
  obtain ⟨hn1, hn2⟩ := hn
  obtain ⟨a1, c1, rfl, hu1, hu2, hu3⟩ := hu
  obtain ⟨a2, c2, rfl, hv1, hv2, hv3⟩ := hv
  unfold maxLen at hu2 hv2
  have HU := Lib.hid hu3; clear hu3
  have HV := Lib.hid hv3; clear hv3
  have HPB : Hid (∀ k, k < ps.length → in64 (ps.getD k (0, 0)).1 ∧ in64 (ps.getD k (0, 0)).2) := fun k hk => hpb _ (by simp [List.getD, hk])
  have HOB : Hid (∀ k, k < os.length → in64 (os.getD k 0)) := fun k hk => hob _ (by simp [List.getD, hk])
  have HNA := Lib.hid (fun N k (hk : k < ps.length) (h : okP N k (ps.getD k (0, 0)) = false) => right_noA (os := os) hk h)
  have HNO := Lib.hid (fun N k (hk : k < os.length) (h : okO (N + ps.length) (os.getD k 0) = false) => right_noO (ps := ps) hk h)
  have HYES := Lib.hid (fun N h1 h2 => right_yes (N := N) (ps := ps) (os := os) h1 h2)
  have HLIM := Lib.hid (fun h => check_lim (n := n) (ps := ps) (os := os) h)
  have HRAN := Lib.hid (fun N h hr => check_ran (N := N) (ps := ps) (os := os) h hr)
  have HOK := Lib.hid (fun N h hr => check_ok (N := N) (ps := ps) (os := os) h hr)
  have HBW : Hid (Below w.heap.size w (w.alloc (.cells #[.int .i64 n, .slice a1 ps.length c1, .slice a2 os.length c2] 25))) := (Below.refl _ _).alloc (Nat.le_refl _) _
  obtain ⟨⟨t0, t1, t2⟩, _⟩ := cirC_box w _ n (.slice a1 ps.length c1) (.slice a2 os.length c2) (Below.refl _ _)
  have HT := Lib.hid (And.intro t0 (And.intro t1 t2))
  clear hpb hob t0 t1 t2
  unfold circV
  generalize hmm : ps.length = m at *
  generalize hll : os.length = l at *
  have HM := Lib.hid hmm; clear hmm
  have HLL := Lib.hid hll; clear hll
  by_cases hneg : n < 0
  · have hE := Lib.hid (HLIM.out (.inl hneg))
    generalize checkC n ps os = cc at *
    go_enter Tryd.func10, Tryd.ntmps10
    go_wp2_with fail
    go_ret
    rw [hE.out]
    exact ⟨rfl, HBW.out⟩
  · by_cases hb8 : 8000 < n
    · have hE := Lib.hid (HLIM.out (.inr (by omega)))
      generalize checkC n ps os = cc at *
      go_enter Tryd.func10, Tryd.ntmps10
      go_wp2_with fail
      go_ret
      rw [hE.out]
      exact ⟨rfl, HBW.out⟩
    · obtain ⟨N, rfl⟩ := Int.eq_ofNat_of_zero_le (show 0 ≤ n by omega)
      by_cases hbig : 8000 < (N : Int) + (m : Int)
      · have hE := Lib.hid (HLIM.out (.inr hbig))
        generalize checkC (N : Int) ps os = cc at *
        go_enter Tryd.func10, Tryd.ntmps10
        go_wp2_with fail
        go_ret
        rw [hE.out]
        exact ⟨rfl, HBW.out⟩
      · have HR := Lib.hid (HRAN.out N hbig)
        have HK := Lib.hid (HOK.out N hbig)
        have hNm : N + m ≤ 8000 := by omega
        have HNA' := Lib.hid (HNA.out N)
        have HNO' := Lib.hid (HNO.out N)
        have HY' := Lib.hid (HYES.out N)
        have HCEL := Lib.hid (fun b o (hb : b < w.heap.size) => HBW.out.cell (p := ⟨b, o, none⟩) hb)
        clear HRAN HOK HLIM HNA HNO HYES
        generalize checkC (N : Int) ps os = cc at *
        go_enter Tryd.func10, Tryd.ntmps10
        go_wp2_with fail
        obtain ⟨t0, t1, t2⟩ := HT.out
        generalize (w.alloc (.cells #[.int .i64 (N : Int), .slice a1 m c1, .slice a2 l c2] 25)) = w0 at *
        clear HT
        go_loop [3, 4, 5] (fun i _ _ => ∃ k : Nat, k ≤ m ∧ i = .int .i64 k ∧ Hid (∀ j, j < k → okP N j (ps.getD j (0, 0)) = true)) (fun i _ _ => m - (intOf i).toNat)
        case atStart => exact ⟨0, Nat.zero_le _, rfl, fun j hj => absurd hj (Nat.not_lt_zero _)⟩
        case round =>
          obtain ⟨k, hk, rfl, HQ⟩ := hrel
          by_cases hlt : k < m
          · obtain ⟨b, off, ha, hbl, hc⟩ := HU.out.resolve_left (by omega)
            subst ha
            obtain ⟨x0, x1⟩ := hc k hlt
            have y0 := (HCEL.out b (off + k * 2) hbl).trans x0
            have y1 := (HCEL.out b (off + k * 2 + 1) hbl).trans x1
            obtain ⟨⟨p1, p2⟩, p3, p4⟩ := HPB.out k hlt
            have HNAK := Lib.hid (HNA'.out k hlt)
            have HQN : Hid (okP N k (ps.getD k (0, 0)) = true → ∀ j, j < k + 1 → okP N j (ps.getD j (0, 0)) = true) := fun h j hj => by
              by_cases e : j = k
              · subst e; exact h
              · exact HQ.out j (by omega)
            have HOI : Hid (okP N k (ps.getD k (0, 0)) = true ↔ _) := okP_iff N k (ps.getD k (0, 0))
            clear hc x0 x1
            generalize (ps.getD k (0, 0)) = xy at *
            obtain ⟨x, y⟩ := xy
            simp only at y0 y1 p1 p2 p3 p4 HOI
            by_cases hbad : x < 0 ∨ y < 0 ∨ 2 * ((N : Int) + (k : Int) + 1) ≤ x ∨ x < y
            · have hE := Lib.hid (HR.out (HNAK.out (by rw [Bool.eq_false_iff]; intro h; have := HOI.out.1 h; omega)))
              by_cases e1 : x < 0
              · clear hbad
                go_wp2_with fail
                go_ret
                rw [hE.out]
                exact ⟨rfl, HBW.out⟩
              · by_cases e2 : y < 0
                · clear hbad
                  go_wp2_with fail
                  go_ret
                  rw [hE.out]
                  exact ⟨rfl, HBW.out⟩
                · by_cases e3 : 2 * ((N : Int) + (k : Int) + 1) ≤ x
                  · clear hbad
                    go_wp2_with fail
                    go_ret
                    rw [hE.out]
                    exact ⟨rfl, HBW.out⟩
                  · have e4 : x < y := by omega
                    clear hbad
                    go_wp2_with fail
                    go_ret
                    rw [hE.out]
                    exact ⟨rfl, HBW.out⟩
            · have e1 : ¬ x < 0 := fun h => hbad (.inl h)
              have e2 : ¬ y < 0 := fun h => hbad (.inr (.inl h))
              have e3 : ¬ 2 * ((N : Int) + (k : Int) + 1) ≤ x := fun h => hbad (.inr (.inr (.inl h)))
              have e4 : ¬ x < y := fun h => hbad (.inr (.inr (.inr h)))
              have HQ2 := Lib.hid (HQN.out (HOI.out.2 (by omega)))
              clear hbad
              go_wp2_with fail
              go_round
              case rel => exact ⟨k + 1, by omega, by go_num, HQ2.out⟩
              case measure => simp [intOf]; omega
          · have hkm : k = m := by omega
            have HQ1 := Lib.hid (show ∀ j, j < m → okP N j (ps.getD j (0, 0)) = true from fun j hj => HQ.out j (by omega))
            clear hlt HQ
            subst hkm
            go_wp2_with fail
            go_loopw [6] (fun i wr => ∃ j q : Nat, j ≤ l ∧ i = .int .i64 j ∧ wr = w0.drewN q ∧ Hid (∀ j', j' < j → okO (N + k) (os.getD j' 0) = true)) (fun i _ => l - (intOf i).toNat)
            case atStart => exact ⟨0, 0, Nat.zero_le _, rfl, rfl, fun j hj => absurd hj (Nat.not_lt_zero _)⟩
            case round =>
              obtain ⟨j, q, hj, rfl, rfl, HO⟩ := hrel
              by_cases hlt2 : j < l
              · obtain ⟨b, off, ha, hbl, hc⟩ := HV.out.resolve_left (by omega)
                subst ha
                have y0 := (HCEL.out b (off + j) hbl).trans (hc j hlt2)
                obtain ⟨p1, p2⟩ := HOB.out j hlt2
                have HNOJ := Lib.hid (HNO'.out j hlt2)
                have HON : Hid (okO (N + k) (os.getD j 0) = true → ∀ j', j' < j + 1 → okO (N + k) (os.getD j' 0) = true) := fun h j' hj' => by
                  by_cases e : j' = j
                  · subst e; exact h
                  · exact HO.out j' (by omega)
                have HOI : Hid (okO (N + k) (os.getD j 0) = true ↔ _) := okO_iff (N + k) (os.getD j 0)
                clear hc
                generalize os.getD j 0 = o at *
                have q1 : IntKind.i64.wrap ((N : Int) + (k : Int)) = (N : Int) + (k : Int) := IntWalk.i64_in _ (by omega)
                have q2 : IntKind.i64.wrap (2 * ((N : Int) + (k : Int))) = 2 * ((N : Int) + (k : Int)) := IntWalk.i64_in _ (by omega)
                have q3 : IntKind.i64.wrap (2 * ((N : Int) + (k : Int)) + 1) = 2 * ((N : Int) + (k : Int)) + 1 := IntWalk.i64_in _ (by omega)
                by_cases e1 : o < 0
                · have hd : decide (o < 0) = true := decide_eq_true e1
                  have hE := Lib.hid (HR.out (HNOJ.out (by rw [Bool.eq_false_iff]; intro h; have := HOI.out.1 h; omega)))
                  go_wp2_with fail
                  go_quiet (fail)
                  clear q1 q2 q3
                  go_wp2_with fail
                  go_ret
                  rw [hE.out]
                  first | exact ⟨rfl, below_drewN (below_drewN HBW.out _) _⟩ | exact ⟨rfl, below_drewN HBW.out _⟩
                · have hd : decide (o < 0) = false := decide_eq_false e1
                  by_cases e2 : 2 * ((N : Int) + (k : Int)) + 1 < o
                  · have hE := Lib.hid (HR.out (HNOJ.out (by rw [Bool.eq_false_iff]; intro h; have := HOI.out.1 h; omega)))
                    go_wp2_with fail
                    go_quiet (fail)
                    clear q1 q2 q3
                    go_wp2_with fail
                    go_ret
                    rw [hE.out]
                    first | exact ⟨rfl, below_drewN (below_drewN HBW.out _) _⟩ | exact ⟨rfl, below_drewN HBW.out _⟩
                  · have HQ2 := Lib.hid (HON.out (HOI.out.2 (by omega)))
                    go_wp2_with fail
                    go_quiet (fail)
                    clear q1 q2 q3
                    go_wp2_with fail
                    go_roundw
                    case rel => exact ⟨j + 1, _, by omega, by go_num, rfl, HQ2.out⟩
                    case measure => simp [intOf]; omega
              · have hjl : j = l := by omega
                have hE := Lib.hid (HK.out (HY'.out (fun k' hk' => HQ1.out k' hk') (fun k' hk' => HO.out k' (by omega))))
                clear hlt2 HO
                subst hjl
                go_wp2_with fail
                go_ret
                rw [hE.out]
                first | exact ⟨rfl, below_drewN (below_drewN HBW.out _) _⟩ | exact ⟨rfl, below_drewN HBW.out _⟩
end Go.Proofs.YtmgepagdkfghlaaDoor

namespace Go.Proofs.YtmgepagdkfghlaaDoor
open Go.RowKit

theorem below_drawsG {w w' : World} (h : ∃ n, w' = w.drewN n) : Below w.heap.size w w' := by
  obtain ⟨n, rfl⟩ := h
  exact below_drewN (Below.refl _ _) n
end Go.Proofs.YtmgepagdkfghlaaDoor

namespace Go.Proofs.YtmgepagdkfghlaaDoor
open Go.RowKit

set_option maxHeartbeats 2000000 in
theorem sameClauses_yes (a a' : Option Addr) (c c' : Nat) (xss : List (List Int)) (w : World) (hv : RowsAt w a c xss) (hu : RowsAt w a' c' xss) :
    Calls Tryd.prog 35 #[.slice a xss.length c, .slice a' xss.length c'] w fun e w' => e = .returned (.bool true) ∧ Below w.heap.size w w' := by
  obtain ⟨h1, h2, h3⟩ := hv
  obtain ⟨h4, h5, h6⟩ := hu
  unfold maxLen at h2 h5
  have h1c : ((xss.length : Int) != xss.length) = false := by simp
  have HV := Lib.hid h3; clear h3
  have HU := Lib.hid h6; clear h6
  generalize hn : xss.length = n at *
  clear hn
  go_enter Tryd.func35, Tryd.ntmps35
  go_wp2_with fail
  go_loopw [5] (fun i wr => ∃ k : Nat, k ≤ n ∧ i = .int .i64 k ∧ Below w.heap.size w wr) (fun i _ => n - (intOf i).toNat)
  case atStart => exact ⟨0, Nat.zero_le _, rfl, Below.refl _ _⟩
  case round =>
    obtain ⟨k, hk, rfl, hbr⟩ := hrel
    by_cases hlt : k < n
    · obtain ⟨b, off, e1, hb, hc⟩ := HV.out.resolve_left (by omega)
      obtain ⟨b', off', e2, hb', hc'⟩ := HU.out.resolve_left (by omega)
      subst e1; subst e2
      obtain ⟨v, g1, r1⟩ := hc k hlt
      obtain ⟨u, g2, r2⟩ := hc' k hlt
      have g1' := (hbr.cell (p := ⟨b, off + k, none⟩) hb).trans g1
      have g2' := (hbr.cell (p := ⟨b', off' + k, none⟩) hb').trans g2
      have HS := Lib.hid (fun W (hW : Below w.heap.size w W) => sameInts_any v u _ _ W (r1.keep hW) (r2.keep hW))
      obtain ⟨av, cv, rfl, _⟩ := r1
      obtain ⟨au, cu, rfl, _⟩ := r2
      have hkc : (k : Int) < n := by omega
      clear g1 g2 hc hc'
      generalize (xss.getD k []) = ys at *
      generalize ys.length = m at *
      have hd : decide (ys = ys) = true := by simp
      rw [hd] at HS
      clear hd
      go_wp2_with fail
      go_region_with (go_at_call 50; refine (HS.out _ (by first | exact hbr | exact hbr.drew | exact below_drewN hbr _)).mono ?_; rintro e w2 ⟨rfl, hw2⟩; have hb2 := (show Below w.heap.size w _ by first | exact hbr.drew | exact hbr).trans ((below_draws hw2).mono (by have := hbr.size; simpa using this)))
      all_goals
        clear hw2
        go_wp2_with fail
      all_goals exact ⟨⟨k + 1, by omega, by go_num, hb2⟩, by simp [intOf]; omega⟩
    · have hkn : k = n := by omega
      subst hkn
      go_wp2_with fail
      go_ret
      exact ⟨rfl, hbr⟩

set_option maxHeartbeats 1000000 in
theorem sameCNF_yes (vars : Int) (a a' : Option Addr) (c c' : Nat) (xss : List (List Int)) (w : World) (hv : RowsAt w a c xss) (hu : RowsAt w a' c' xss) :
    Calls Tryd.prog 15 #[.agg #[.int .i64 vars, .slice a xss.length c], .agg #[.int .i64 vars, .slice a' xss.length c']] w fun e w' => e = .returned (.bool true) ∧ Below w.heap.size w w' := by
  have HS := Lib.hid (fun W (hW : Below w.heap.size w W) => sameClauses_yes a a' c c' xss W (hv.keep hW) (hu.keep hW))
  have HB := Lib.hid (fun o1 o2 => show Below w.heap.size w ((w.alloc o1).alloc o2) from ((Below.refl _ w).alloc (Nat.le_refl _) _).alloc (by simp) _)
  have hvv : (vars == vars) = true := by simp
  clear hv hu
  generalize xss.length = n at *
  go_enter Tryd.func15, Tryd.ntmps15
  go_wp2_with (go_at_call 35; refine (HS.out _ (HB.out _ _)).mono ?_; rintro e w2 ⟨rfl, hb2⟩)
  go_ret
  exact ⟨rfl, (HB.out _ _).trans (hb2.mono (by simp; omega))⟩
end Go.Proofs.YtmgepagdkfghlaaDoor

namespace Go.Proofs.YtmgepagdkfghlaaDoor
open Go.RowKit

/-- A number's bits. -/
def valB (n : Int) (k : Nat) : Bool := bits .and .i64 (n / 2 ^ (k % 60)) 1 == 1
def valsL (n : Int) (m : Nat) : List Bool := (List.range m).map (valB n)
theorem valsL_succ (n : Int) (k : Nat) : valsL n (k + 1) = valsL n k ++ [valB n k] := by unfold valsL; rw [List.range_succ, List.map_append]; rfl
theorem valsL_len (n : Int) (m : Nat) : (valsL n m).length = m := by simp [valsL]

set_option maxRecDepth 8000 in
set_option maxHeartbeats 2000000 in
theorem valuesD_any (n : Int) (m : Nat) (w : World) (_hn1 : -9223372036854775808 ≤ n) (_hn2 : n ≤ 9223372036854775807) (hm : m ≤ 59) :
    Calls Tryd.prog 14 #[.int .i64 n, .int .i64 (m : Int)] w fun e w' => ∃ z : Value, e = .returned z ∧ w'.ownsRow w.heap.size 4 1 z m ((valsL n m).map Value.bool) ∧ Below w.heap.size w w' := by
  go_enter Tryd.func14, Tryd.ntmps14
  go_wp2_with fail
  go_loopw [6, 5] (fun i u wr => ∃ k : Nat, k ≤ m ∧ i = .int .i64 k ∧ wr.ownsRow w.heap.size 4 1 u k ((valsL n k).map Value.bool) ∧ Below w.heap.size w wr) (fun i _ _ => m - (intOf i).toNat)
  case atStart => exact ⟨0, Nat.zero_le _, rfl, World.ownsRow_nil _ _ _ _, Below.refl _ _⟩
  case round =>
    obtain ⟨k, hk, rfl, hown, hbr⟩ := hrel
    obtain ⟨ab, cb, rfl, _, hcb⟩ := own_shape hown
    unfold maxLen at hcb
    by_cases hlt : k < m
    · have hsz := hbr.size
      have HBQ := Lib.hid hbr
      clear hbr
      have HVS := Lib.hid (valsL_succ n k)
      have HVB : Hid ((bits .and .i64 (n / 2 ^ (k % 60)) 1 == 1) = valB n k) := rfl
      generalize hxs : valsL n k = xs at *
      clear hxs
      go_wp2_with (at_builtin; refine wpList_app1G Value.bool 40 4 (.bool false) 1 Tryd.underlying40 infoBool9 rfl (by decide) rfl _ _ rfl wr w.heap.size _ k xs _ rfl hown hsz (by omega) rfl rfl ?_; intro u' w5 hown5 hap5)
      go_roundw
      case rel => exact ⟨k + 1, by omega, by go_num, by rw [HVS.out, ← HVB.out]; exact hown5, HBQ.out.trans hap5.below⟩
      case measure => simp [intOf]; omega
    · have hkm : m = k := by omega
      subst hkm
      go_wp2_with fail
      go_ret
      exact ⟨_, rfl, hown, hbr⟩
end Go.Proofs.YtmgepagdkfghlaaDoor

namespace Go.Proofs.YtmgepagdkfghlaaDoor
open Go.RowKit

/-- The circuit's variable and the row of literals to be forced, at any later world. -/
structure S13 (w w5 : World) (b : Nat) (n : Int) (u v f : Value) (gs : List Int) (W : World) : Prop where
  cv : CV W b n u v
  row : Row W f gs
  b5 : Below w5.heap.size w5 W
  bw : Below w.heap.size w W
theorem S13.keep {w w5 : World} {b : Nat} {n : Int} {u v f : Value} {gs : List Int} {W W' : World} (h : S13 w w5 b n u v f gs W) (hb : Below W.heap.size W W') : S13 w w5 b n u v f gs W' := ⟨h.cv.keep hb, h.row.keep hb, bb_step h.b5 hb, bb_step h.bw hb⟩
/-- Beside it the clauses' variable. -/
structure T13 (w w5 : World) (b : Nat) (n : Int) (u v f : Value) (gs : List Int) (b7 B : Nat) (m : Int) (o : Value) (xs : List (List Int)) (W : World) : Prop where
  s : S13 w w5 b n u v f gs W
  nv : NV W b7 m o
  cr : CRow W B o xs
theorem T13.keep {w w5 : World} {b : Nat} {n : Int} {u v f : Value} {gs : List Int} {b7 B : Nat} {m : Int} {o : Value} {xs : List (List Int)} {W W' : World} (h : T13 w w5 b n u v f gs b7 B m o xs W) (hb : Below W.heap.size W W') : T13 w w5 b n u v f gs b7 B m o xs W' := ⟨h.s.keep hb, h.nv.keep hb, h.cr.keep hb⟩
/-- The literals to be forced. -/
def modsF (t : Int) (fs : List Int) : List Int := fs.map (· % t)
theorem modsF_len (t : Int) (fs : List Int) : (modsF t fs).length = fs.length := by simp [modsF]
theorem modsF_take (t : Int) (fs : List Int) (k : Nat) (h : k < fs.length) : (modsF t fs).take (k + 1) = (modsF t fs).take k ++ [fs.getD k 0 % t] := by
  unfold modsF
  rw [← List.map_take, ← List.map_take, List.take_succ_eq_append_getElem h, List.map_append]
  simp [List.getD, h]
theorem modsF_ok (M : Nat) (fs : List Int) : (modsF (2 * (M : Int) + 2) fs).all (okO M) = true := by
  rw [List.all_eq_true]
  intro x hx
  unfold modsF at hx
  obtain ⟨y, _, rfl⟩ := List.mem_map.1 hx
  rw [okO_iff]
  have h1 := Int.emod_nonneg y (show 2 * (M : Int) + 2 ≠ 0 by omega)
  have h2 := Int.emod_lt_of_pos y (show (0 : Int) < 2 * (M : Int) + 2 by omega)
  omega
theorem modsF_in (M : Nat) (fs : List Int) (hM : M ≤ 10000) : ∀ x ∈ modsF (2 * (M : Int) + 2) fs, in64 x := fun x hx => by
  have := (okO_iff _ _).1 (List.all_eq_true.1 (modsF_ok M fs) x hx)
  unfold in64
  omega

set_option maxRecDepth 8000 in
set_option maxHeartbeats 8000000 in
theorem lawTs_any (A : Nat → Addr) (n : Int) (u v : Value) (ps : List (Int × Int)) (os : List Int) (i0 : Int) (a2 : Option Addr) (c2 : Nat) (ls : List Int) (a3 : Option Addr) (c3 : Nat) (ts : List Int) (nn : Int) (w : World) (hS : Sents w A) (hu : PRow w u ps) (hv : Row w v os) (hn : in64 n) (hpb : ∀ x ∈ ps, in64 x.1 ∧ in64 x.2) (hob : ∀ o ∈ os, in64 o)
    (hl : RowAt w a2 c2 ls) (hlb : ∀ y ∈ ls, in64 y) (ht : RowAt w a3 c3 ts) (htb : ∀ y ∈ ts, in64 y) (hnn : in64 nn) :
    Calls Tryd.prog 3 #[circV n u v, .int .i64 i0, .slice a2 ls.length c2, .slice a3 ts.length c3, .int .i64 nn] w fun e w' => e = .returned (.bool true) ∧ Below w.heap.size w w' := by
  by_cases hout : 60 < ps.length ∨ 30 < os.length ∨ 120 < ls.length ∨ 10 < ts.length ∨ i0 < 0 ∨ 30 < i0
  · exact lawTs_out A n u v ps os i0 a2 c2 ls.length a3 c3 ts.length nn w hS hu hv hout
  have d1 : decide (60 < ps.length) = false := decide_eq_false fun h => hout (.inl h)
  have d2 : decide (30 < os.length) = false := decide_eq_false fun h => hout (.inr (.inl h))
  have d3 : decide (120 < ls.length) = false := decide_eq_false fun h => hout (.inr (.inr (.inl h)))
  have d4 : decide (10 < ts.length) = false := decide_eq_false fun h => hout (.inr (.inr (.inr (.inl h))))
  have e1 : ¬ 60 < ps.length := fun h => hout (.inl h)
  have e2 : ¬ 30 < os.length := fun h => hout (.inr (.inl h))
  have e3 : ¬ 120 < ls.length := fun h => hout (.inr (.inr (.inl h)))
  have e4 : ¬ 10 < ts.length := fun h => hout (.inr (.inr (.inr (.inl h))))
  obtain ⟨N, rfl⟩ : ∃ N : Nat, i0 = (N : Int) := ⟨i0.toNat, by omega⟩
  have e5 : ¬ (N : Int) < 0 := fun h => hout (.inr (.inr (.inr (.inr (.inl h)))))
  have e6 : ¬ (30 : Int) < (N : Int) := fun h => hout (.inr (.inr (.inr (.inr (.inr h)))))
  clear hout
  have HTR := Lib.hid (fun W (hW : Below w.heap.size w W) => tenc_raw A n u v ps os W (hS.two.keep hW) (hu.keep hW) (hv.keep hW) hn (by omega) (by omega) hpb hob)
  have HRC := Lib.hid (fun W (hW : Below w.heap.size w W) => rcheck_any n u v ps os W (hu.keep hW) (hv.keep hW) hn (by omega) (by omega) hpb hob)
  have HER := Lib.hid (fun W (hW : Below w.heap.size w W) => errAs13 (hS.keep hW) (checkC n ps os) (check_vals13 n ps os) W (Below.refl _ _))
  have HMK := Lib.hid (fun W (hW : Below w.heap.size w W) => mkc_any N (.slice a2 ls.length c2) (.slice none 0 0) ls [] W ⟨_, _, rfl, hl.keep hW⟩ (Row.nil _) (by omega) (by omega) (by simp) hlb (by simp))
  have HS := Lib.hid (fun W (hW : Below w.heap.size w W) => hS.keep hW)
  have HVAL := Lib.hid (fun W => valuesD_any nn N W hnn.1 hnn.2 (by omega))
  have HIL := Lib.hid (valsL_len nn N)
  have HL1 := Lib.hid (fun W => tlit_any nn W hnn.1 hnn.2)
  have HL2 := Lib.hid (fun W => rlit13_any nn W hnn.1 hnn.2)
  have HT : Hid (RowAt w a3 c3 ts) := ht
  have HTB : Hid (∀ k, k < ts.length → in64 (ts.getD k 0)) := fun k hk => htb _ (by simp [List.getD, hk])
  have HFL := Lib.hid (fun t => modsF_len t ts)
  have HFT := Lib.hid (fun t k hk => modsF_take t ts k hk)
  have HN30 : Hid (N ≤ 30 ∧ ls.length ≤ 120 ∧ ts.length ≤ 10) := by unfold Hid; omega
  obtain ⟨a0, c0, rfl, _⟩ := hu
  obtain ⟨a1, c1, rfl, _⟩ := hv
  have HBX := Lib.hid (fun W hW => cirC_box w W n (.slice a0 ps.length c0) (.slice a1 os.length c1) hW)
  unfold CirC at HBX
  clear hS hpb hob hl hlb ht htb hn hnn
  unfold faultV at HER
  unfold circV at *
  generalize litC nn = ln at *
  generalize valsL nn N = ins at *
  generalize checkC n ps os = cc at *
  generalize ps.length = m0 at *
  generalize os.length = m1 at *
  generalize ls.length = m2 at *
  generalize hm3 : ts.length = m3 at *
  have HM3 := Lib.hid hm3
  clear hm3
  have HB0 : Hid ((w.alloc (.cells #[.int .i64 n, .slice a0 m0 c0, .slice a1 m1 c1] 25)).heap.size = w.heap.size + 1) := by unfold Hid; simp
  rw [← HB0.out] at HBX
  have HSW := Lib.hid (HS.out _ ((Below.refl _ w).alloc (Nat.le_refl _) (.cells #[.int .i64 n, .slice a0 m0 c0, .slice a1 m1 c1] 25)))
  have hfl := fldCode13 cc false 0
  have hcc : (cc != cc) = false := by simp
  go_enter Tryd.func3, Tryd.ntmps3
  go_wp2_with fail
  generalize w.alloc (.cells #[.int .i64 n, .slice a0 m0 c0, .slice a1 m1 c1] 25) = w0 at *
  clear HB0
  refine (first13_any A w0 HSW.out.two).mono ?_
  rintro e w1 ⟨rfl, hb1⟩
  have HX := Lib.hid (fun W (hW : Below w0.heap.size w0 W) => (HBX.out W hW).1)
  have HW := Lib.hid (fun W (hW : Below w0.heap.size w0 W) => (HBX.out W hW).2)
  obtain ⟨k0, k1, k2⟩ := HX.out _ hb1
  have HTR1 := Lib.hid (HTR.out _ (HW.out _ hb1))
  have HB1 := Lib.hid hb1
  clear hb1 HTR HBX
  go_wp2_with fail
  refine HTR1.out.mono ?_
  rintro e w2 ⟨⟨ms, as2, Ls2, cs2, rfl⟩, hb2⟩
  have HB3 := Lib.hid ((bb_step HB1.out hb2).alloc (bb_step HB1.out hb2).size (.cells #[.int .i64 ms, .slice as2 Ls2 cs2] 29))
  clear hb2 HTR1 HB1
  go_wp2_with fail
  generalize w2.alloc (.cells #[.int .i64 ms, .slice as2 Ls2 cs2] 29) = w3 at *
  clear k0 k1 k2
  have hV0 : Below w0.heap.size w0 w3.drew := bb_step HB3.out (Below.refl _ _).drew
  have S0 := Lib.hid (HX.out _ hV0)
  have S9 := Lib.hid (HX.out _ HB3.out)
  go_region_held3 (fun W => W.cell? ⟨w.heap.size, 0, none⟩ = some (.int .i64 n) ∧ W.cell? ⟨w.heap.size, 1, none⟩ = some (.slice a0 m0 c0) ∧ W.cell? ⟨w.heap.size, 2, none⟩ = some (.slice a1 m1 c1)) (first | (with_reducible exact S0.out) | (with_reducible exact S9.out) | (with_reducible exact S1.out) | (with_reducible exact S2.out)) (first
    | (go_at_call 9; refine (HER.out _ (HW.out _ hV0)).mono ?_; rintro e wC ⟨rfl, hbC⟩; have hVC := bb_step hV0 hbC; have S1 := Lib.hid (HX.out _ hVC); clear hbC)
    | (go_at_call 10; refine (HRC.out _ (HW.out _ hVC)).mono ?_; rintro e wR ⟨rfl, hbR⟩; have hVR := bb_step hVC hbR; have S2 := Lib.hid (HX.out _ hVR); have HVR := Lib.hid hVR; clear hbR hVR))
  all_goals
    clear hV0 S0 S9 S1 S2 hVC HER HRC hfl hcc HX HB3
    have HM := Lib.hid (HMK.out _ (HW.out _ HVR.out))
    have HB1W := Lib.hid (HW.out _ HVR.out)
    go_wp2_with fail
    refine HM.out.mono ?_
    rintro e w5 ⟨⟨u', v', ps', os', rfl, hu', hv', hck, hpl, hol, hpb, hob⟩, hb5⟩
    have HB5 := Lib.hid (HB1W.out.trans (hb5.mono HB1W.out.size))
    obtain rfl : os' = [] := List.eq_nil_of_length_eq_zero hol
    clear hb5 HM HVR HMK
    have HU := Lib.hid (fun W (hW : Below w5.heap.size w5 W) => hu'.keep hW)
    have HV := Lib.hid (fun W (hW : Below w5.heap.size w5 W) => hv'.keep hW)
    obtain ⟨hnm, hokp, _⟩ := check_zero8 hck
    have HC5 := Lib.hid (CV.new w5 (N : Int) u' v' 25)
    have HA5 : Hid (Below w5.heap.size w5 (w5.alloc (.cells #[.int .i64 (N : Int), u', v'] 25))) := (Below.refl _ _).alloc (Nat.le_refl _) _
    have hm120 : ps'.length ≤ 120 := Nat.le_trans hpl HN30.out.2.1
    have hn30 := HN30.out.1
    have hm310 := HN30.out.2.2
    have NF := Lib.hid (fun y W (h : in64 y) => number_any y (2 * ((N : Int) + (ps'.length : Int)) + 2) W (by omega) (by omega) h.1 h.2)
    have HFO := Lib.hid (modsF_ok (N + ps'.length) ts)
    have HFI := Lib.hid (modsF_in (N + ps'.length) ts (by omega))
    rw [show 2 * ((N + ps'.length : Nat) : Int) + 2 = 2 * ((N : Int) + (ps'.length : Int)) + 2 by omega] at HFO HFI
    have HF1 := Lib.hid (HFL.out (2 * ((N : Int) + (ps'.length : Int)) + 2))
    have HF2 := Lib.hid (HFT.out (2 * ((N : Int) + (ps'.length : Int)) + 2))
    have hbad : okO (N + ps'.length) (2 * ((N : Int) + (ps'.length : Int)) + 2) = false := by
      rw [Bool.eq_false_iff]; intro h; rw [okO_iff] at h; omega
    have hq1 : IntKind.i64.wrap ((N : Int) + (ps'.length : Int)) = (N : Int) + (ps'.length : Int) := IntWalk.i64_in _ (by omega)
    have hq2 : IntKind.i64.wrap (2 * ((N : Int) + (ps'.length : Int))) = 2 * ((N : Int) + (ps'.length : Int)) := IntWalk.i64_in _ (by omega)
    have hq3 : IntKind.i64.wrap (2 * ((N : Int) + (ps'.length : Int)) + 2) = 2 * ((N : Int) + (ps'.length : Int)) + 2 := IntWalk.i64_in _ (by omega)
    have htb : 0 ≤ 2 * ((N : Int) + (ps'.length : Int)) + 2 ∧ 2 * ((N : Int) + (ps'.length : Int)) + 2 ≤ 1000000 := by omega
    generalize ht : 2 * ((N : Int) + (ps'.length : Int)) + 2 = t at *
    generalize modsF t ts = gs at *
    have HTE := Lib.hid (fun W f (hW : Below w5.heap.size w5 W) (hf : Row W f gs) => tenc_ok A N u' v' f ps' [] gs W (HS.out _ (HB5.out.trans (hW.mono HB5.out.size))).two (HU.out _ hW) (HV.out _ hW) hf (by simp) hpb (by simp) HFI.out hck HFO.out (by rw [HF1.out]; omega))
    have HRE := Lib.hid (fun W f (hW : Below w5.heap.size w5 W) (hf : Row W f gs) => renc_any N u' v' f ps' [] gs W (HU.out _ hW) (HV.out _ hW) hf hck HFO.out (by rw [HF1.out]; omega))
    have HTX := Lib.hid (fun W f (hW : Below w5.heap.size w5 W) (hf : Row W f [t]) => tenc_ran A N u' v' f ps' [] [t] W (HS.out _ (HB5.out.trans (hW.mono HB5.out.size))).two (HU.out _ hW) (HV.out _ hW) hf (by simp) hpb (by simp) (by intro x hx; rw [List.mem_singleton] at hx; subst hx; exact ⟨by omega, by omega⟩) hck (by rw [List.all_cons, hbad]; rfl))
    have HXE := Lib.hid (fun W q ins (hW : Below w5.heap.size w5 W) (hq : BRow W q ins) (hi : ins.length ≤ 1000) => text_any A N u' v' q ps' [] ins W (HS.out _ (HB5.out.trans (hW.mono HB5.out.size))).two (HU.out _ hW) (HV.out _ hW) (by simp) (by simp) hq hi hck)
    have HND := Lib.hid (fun W q ins (hW : Below w5.heap.size w5 W) (hq : BRow W q ins) (hi : ins.length ≤ 1000) => nodes_any N u' v' q ps' [] ins W (HU.out _ hW) (HV.out _ hW) hq hi hck)
    unfold EncPost at HTE HTX
    rw [show errC A 0 = .nilIface from rfl] at HTE
    have HT1 := Lib.hid (fun W => tlit_any t W (by omega) (by omega))
    have HT2 := Lib.hid (fun W => rlit13_any t W (by omega) (by omega))
    have HIS := Lib.hid (fun W (hW : Below w.heap.size w W) => isE_any (errC A 104) 104 W (errAs13 (HS.out _ hW) 104 (.inr (.inr rfl))))
    generalize litC t = lt at *
    obtain ⟨au, cu, rfl, hu1, hu2, _⟩ := hu'
    obtain ⟨av, cv, rfl, _⟩ := hv'
    unfold maxLen at hu2
    clear hck hokp hpb hob hol hpl hbad
    unfold circV at *
    generalize encC N ps' gs = xs at *
    generalize hm5 : ps'.length = m5 at *
    have HM5 := Lib.hid hm5
    clear hm5
    rw [List.length_nil] at HC5 HA5 HTE HRE HTX HXE HND
    obtain ⟨z0, z1, z2, zf, zl⟩ := HC5.out
    go_wp2_with fail
    generalize w5.alloc (.cells #[.int .i64 (N : Int), .slice au m5 cu, .slice av 0 cv] 25) = w6 at *
    have HTQ := Lib.hid ht
    have HTB2 := Lib.hid htb
    have HB6 := Lib.hid (HB5.out.trans (HA5.out.mono HB5.out.size))
    obtain ⟨ht1, ht2, ht3⟩ := HT.out
    rw [HM3.out] at ht1 ht3
    unfold maxLen at ht2
    have HTR := Lib.hid ht3
    clear ht htb ht3 hq1 hq2 hq3 HT
    go_loopw [16, 17] (fun o i wr => ∃ j : Nat, j ≤ m3 ∧ i = .int .i64 (j : Int) ∧ wr.ownsRow w6.heap.size 3 1 o j ((gs.take j).map (Value.int .i64)) ∧ Below w6.heap.size w6 wr) (fun _ i _ => m3 - (intOf i).toNat)
    case atStart => exact ⟨0, Nat.zero_le _, rfl, World.ownsRow_nil _ _ _ _, Below.refl _ _⟩
    case round =>
      obtain ⟨j, hj, rfl, hown, hbr⟩ := hrel
      obtain ⟨ab, cb, rfl, _, hcb⟩ := own_shape hown
      unfold maxLen at hcb
      by_cases hlt : j < m3
      · obtain ⟨b, off, ha, hbl, hcl⟩ := HTR.out.resolve_left (by omega)
        subst ha
        have y0 := ((HB6.out.trans (hbr.mono HB6.out.size)).cell (p := ⟨b, off + j, none⟩) hbl).trans (hcl j hlt)
        have NJ := Lib.hid (fun W => NF.out (ts.getD j 0) W (HTB.out j hlt))
        have HFJ := Lib.hid (HF2.out j hlt)
        have hsz := hbr.size
        have HBR := Lib.hid hbr
        clear hcl hbr
        generalize ts.getD j 0 = y at *
        generalize y % t = yt at *
        go_wp2_with (first
          | (go_at_call 12; refine (NJ.out _).mono ?_; rintro e w' ⟨rfl, rfl⟩)
          | (at_builtin; refine wpList_app1 rfl _ _ rfl wr w6.heap.size _ _ _ _ hown hsz (by omega) rfl rfl ?_; intro v' w2 hown2 hap))
        go_roundw
        case rel => exact ⟨j + 1, by omega, by go_num, by rw [HFJ.out]; exact hown2, HBR.out.trans hap.below⟩
        case measure => simp [intOf]; omega
      · have hjm : j = m3 := by omega
        subst hjm
        have htk : gs.take j = gs := List.take_of_length_le (by rw [HF1.out]; omega)
        rw [htk] at hown
        have HSR : Hid (S13 w w5 w5.heap.size (N : Int) (.slice au m5 cu) (.slice av 0 cv) (.slice ab j cb) gs wr) := by
          refine ⟨HC5.out.keep hbr, ?_, HA5.out.trans (hbr.mono HA5.out.size), HB6.out.trans (hbr.mono HB6.out.size)⟩
          have := own_row hown
          exact this
        have HT7 := Lib.hid (HTE.out wr _ HSR.out.b5 HSR.out.row)
        clear z0 z1 z2 zf zl hown hbr HTR HTB HFT HF2 NF HFL HTE HC5 HA5 HB6 htk hlt hj ht1
        obtain ⟨z0, z1, z2, zf, zl⟩ := HSR.out.cv
        go_wp2_with fail
        refine HT7.out.mono ?_
        rintro e w7 ⟨⟨o7, rfl, hr7⟩, hb7⟩
        have HS7 := Lib.hid (HSR.out.keep hb7)
        have HA7 : Hid (Below w7.heap.size w7 (w7.alloc (.cells #[.int .i64 ((N : Int) + (m5 : Int)), o7] 29))) := (Below.refl _ _).alloc (Nat.le_refl _) _
        have HT8 := Lib.hid (show T13 w w5 w5.heap.size (N : Int) (.slice au m5 cu) (.slice av 0 cv) (.slice ab j cb) gs w7.heap.size wr.heap.size ((N : Int) + (m5 : Int)) o7 xs _ from ⟨HS7.out.keep HA7.out, NV.new w7 ((N : Int) + (m5 : Int)) o7 29, hr7.keep HA7.out⟩)
        obtain ⟨ao, co, rfl, _⟩ := hr7.rows
        generalize hlg : xs.length = lg at *
        have HLG := Lib.hid hlg
        clear hlg z0 z1 z2 zf zl hr7 hb7 HT7 HSR HS7
        go_upto_region 17 with fail
        generalize w7.alloc (.cells #[.int .i64 ((N : Int) + (m5 : Int)), .slice ao lg co] 29) = w8 at *
        have HA8 : Hid (Below w8.heap.size w8 (w8.alloc (.cells ([t].map (Value.int .i64)).toArray 3))) := (Below.refl _ _).alloc (Nat.le_refl _) _
        have HR8 := Lib.hid (row_lit13 w8 [t] (by simp))
        have HX8 := Lib.hid (HTX.out _ _ (bb_step HT8.out.s.b5 HA8.out) HR8.out)
        rw [show (([t].map (Value.int .i64)).toArray) = #[Value.int .i64 t] from rfl] at HA8 HX8
        simp only [List.length_singleton] at HX8
        obtain ⟨z0, z1, z2, zf, zl⟩ := HT8.out.s.cv
        clear HTX HR8 HA7
        go_wp2_with fail
        have HT9 := Lib.hid (HT8.out.keep HA8.out)
        generalize w8.alloc (.cells #[.int .i64 t] 3) = w9 at *
        refine HX8.out.mono ?_
        rintro e w10 ⟨⟨oe, rfl, hre⟩, hb10⟩
        have HT10 := Lib.hid (HT9.out.keep hb10)
        have HA10 : Hid (Below w10.heap.size w10 (w10.alloc (.cells #[.int .i64 0, oe] 29))) := (Below.refl _ _).alloc (Nat.le_refl _) _
        have HT11 := Lib.hid (HT10.out.keep HA10.out)
        obtain ⟨aoe, coe, rfl, _⟩ := hre.rows
        rw [List.length_nil] at HT11
        clear z0 z1 z2 zf zl hre hb10 HX8 HA8 HT8 HT9 HA10 HT10
        go_upto_region 18 with fail
        generalize w10.alloc (.cells #[.int .i64 0, .slice aoe 0 coe] 29) = w11 at *
        have hV0 : Below w11.heap.size w11 w11.drew := (Below.refl _ _).drew
        have HSS := Lib.hid (fun W (hW : Below w11.heap.size w11 W) => show W.cell? ⟨w5.heap.size, 0, none⟩ = some (.int .i64 (N : Int)) ∧ W.cell? ⟨w5.heap.size, 1, none⟩ = some (.slice au m5 cu) ∧ W.cell? ⟨w5.heap.size, 2, none⟩ = some (.slice av 0 cv) from ⟨(HT11.out.keep hW).s.cv.c0, (HT11.out.keep hW).s.cv.c1, (HT11.out.keep hW).s.cv.c2⟩)
        have S0 := Lib.hid (HSS.out _ (Below.refl _ _))
        have S1 := Lib.hid (HSS.out _ hV0)
        have HVAL2 := Lib.hid (fun W => HVAL.out W)
        go_region_held3 (fun W => W.cell? ⟨w5.heap.size, 0, none⟩ = some (.int .i64 (N : Int)) ∧ W.cell? ⟨w5.heap.size, 1, none⟩ = some (.slice au m5 cu) ∧ W.cell? ⟨w5.heap.size, 2, none⟩ = some (.slice av 0 cv)) (first | (with_reducible exact S0.out) | (with_reducible exact S1.out) | (with_reducible exact S2.out) | (with_reducible exact S3.out)) (first
          | (go_at_call 14; refine (HVAL.out _).mono ?_; rintro e w12 ⟨zv, rfl, hz, hb12⟩; have hV12 := bb_step hV0 hb12; have S2 := Lib.hid (HSS.out _ hV12); have HX9 := Lib.hid (HXE.out w12 _ ins (HT11.out.keep hV12).s.b5 (own_rowG (mk := Value.bool) (d := false) hz) (by rw [HIL.out]; omega)); obtain ⟨az, cz, rfl, _, _⟩ := own_shape hz; clear hz hb12)
          | (go_at_call 13; refine HX9.out.mono ?_; rintro e wX ⟨zx, rfl, hzx, hbX⟩; have hVX := bb_step hV12 hbX; have S3 := Lib.hid (HSS.out _ hVX); have HZX := Lib.hid (own_rowG (mk := Value.bool) (d := false) hzx); have HVX := Lib.hid hVX; obtain ⟨ax, cx, rfl, _, _⟩ := own_shape hzx; clear hzx hbX hVX))
        all_goals
          have HQ := Lib.hid (fun W (hW : Below wX.heap.size wX W) => HT11.out.keep (HVX.out.trans (hW.mono HVX.out.size)))
          have HZQ := Lib.hid (fun W (hW : Below wX.heap.size wX W) => RowG.keep HZX.out hW)
          clear hV0 hV12 S0 S1 S2 S3 HX9 HXE HSS HT11 HVX HZX
          have HSS := Lib.hid (fun W (hW : Below wX.heap.size wX W) => show (W.cell? ⟨w5.heap.size, 0, none⟩ = some (.int .i64 (N : Int)) ∧ W.cell? ⟨w5.heap.size, 1, none⟩ = some (.slice au m5 cu) ∧ W.cell? ⟨w5.heap.size, 2, none⟩ = some (.slice av 0 cv)) ∧ W.cell? ⟨w7.heap.size, 0, none⟩ = some (.int .i64 ((N : Int) + (m5 : Int))) ∧ W.cell? ⟨w7.heap.size, 1, none⟩ = some (.slice ao lg co) from ⟨⟨(HQ.out W hW).s.cv.c0, (HQ.out W hW).s.cv.c1, (HQ.out W hW).s.cv.c2⟩, (HQ.out W hW).nv.c0, (HQ.out W hW).nv.c1⟩)
          have HR1 := Lib.hid (fun W (hW : Below wX.heap.size wX W) => HRE.out W _ (HQ.out W hW).s.b5 (HQ.out W hW).s.row)
          have HN1 := Lib.hid (fun W q (hW : Below wX.heap.size wX W) (hq : BRow W q ins) => HND.out W q ins (HQ.out W hW).s.b5 hq (by rw [HIL.out]; omega))
          have HI1 := Lib.hid (fun W (hW : Below wX.heap.size wX W) => HIS.out W (HQ.out W hW).s.bw)
          have HCN := Lib.hid (fun W a1 k1 (hW : Below wX.heap.size wX W) (h : RowsAt W a1 k1 xs) => sameCNF_yes ((N : Int) + (m5 : Int)) ao a1 co k1 xs W (HQ.out W hW).cr.rows_at.2 h)
          rw [HLG.out] at HCN
          generalize nodesV N ps' ins = vs at *
          have HSB := Lib.hid (fun W v1 v2 h1 h2 => sameBools_yes v1 v2 vs W h1 h2)
          have hlt2 : (lt == lt) = true := by simp
          have hln2 : (ln == ln) = true := by simp
          clear HRE HND HIS
          have hV : Below wX.heap.size wX wX.drew := (Below.refl _ _).drew
          go_upto_region 19 with fail
          go_region_held3 (fun W => (W.cell? ⟨w5.heap.size, 0, none⟩ = some (.int .i64 (N : Int)) ∧ W.cell? ⟨w5.heap.size, 1, none⟩ = some (.slice au m5 cu) ∧ W.cell? ⟨w5.heap.size, 2, none⟩ = some (.slice av 0 cv)) ∧ W.cell? ⟨w7.heap.size, 0, none⟩ = some (.int .i64 ((N : Int) + (m5 : Int))) ∧ W.cell? ⟨w7.heap.size, 1, none⟩ = some (.slice ao lg co)) (first | exact HSS.out _ hV | exact HSS.out _ (Below.refl _ _)) (first
            | (go_at_call 16; refine (HR1.out _ hV).mono ?_; rintro e W1 ⟨⟨o1, rfl, hr1⟩, hb1⟩; replace hV := bb_step hV hb1; obtain ⟨a1, k1, rfl, hra⟩ := hr1.rows; have HSC := Lib.hid (HCN.out W1 a1 k1 hV hra); rw [HLG.out]; clear hr1 hra hb1)
            | (go_at_call 15; refine HSC.out.mono ?_; rintro e W2 ⟨rfl, hb2⟩; replace hV := bb_step hV hb2; clear hb2 HSC)
            | (go_at_call 17; refine (HI1.out _ hV).mono ?_; rintro e W3 ⟨rfl, hb3⟩; replace hV := bb_step hV hb3; clear hb3)
            | (go_at_call 14; refine (HVAL.out _).mono ?_; rintro e W4 ⟨zw, rfl, hz, hb4⟩; replace hV := bb_step hV hb4; have HNC := Lib.hid (HN1.out _ _ hV (own_rowG (mk := Value.bool) (d := false) hz)); obtain ⟨aw, cw, rfl, _, _⟩ := own_shape hz; clear hz hb4)
            | (go_at_call 19; refine HNC.out.mono ?_; rintro e W5 ⟨zn, rfl, hzn, hb5⟩; replace hV := bb_step hV hb5; have HSX := Lib.hid (HSB.out W5 _ _ (HZQ.out _ hV) (own_rowG (mk := Value.bool) (d := false) hzn)); obtain ⟨an, cn, rfl, _, _⟩ := own_shape hzn; clear hzn hb5 HNC)
            | (go_at_call 18; refine HSX.out.mono ?_; rintro e W6 ⟨rfl, hb6⟩; replace hV := bb_step hV hb6; clear hb6 HSX)
            | (go_at_call_of 20 (Value.int IntKind.i64 t); refine (HT1.out _).mono ?_; rintro e w' ⟨rfl, rfl⟩)
            | (go_at_call_of 21 (Value.int IntKind.i64 t); refine (HT2.out _).mono ?_; rintro e w' ⟨rfl, rfl⟩)
            | (go_at_call 20; refine (HL1.out _).mono ?_; rintro e w' ⟨rfl, rfl⟩)
            | (go_at_call 21; refine (HL2.out _).mono ?_; rintro e w' ⟨rfl, rfl⟩))
          all_goals
            go_wp2_with fail
            go_ret
            exact ⟨rfl, (HQ.out _ hV).s.bw⟩
end Go.Proofs.YtmgepagdkfghlaaDoor
