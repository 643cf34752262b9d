/- The contracts of a pace's Conflict, Least, Left and Restart where there is no budget. Conditions: the pace lies as PcS has it, its numbers small. -/
import Derived.Test.YtnhmeojcjnkebaaPaA
import Derived.Deep.Light
import Derived.Deep.RegionWith
import Derived.Deep.CutBlock
import Derived.Deep.DeepCutAuto
set_option linter.unusedVariables false
set_option linter.unusedSimpArgs false
namespace Go.Proofs.Ytnhmeojcjnkebaa
open Go.RowKit

set_option maxRecDepth 8000 in
set_option maxHeartbeats 4000000 in
theorem conf_any {B g : Nat} {a : Option Addr} {c : Nat} {rs : List Int} {pl : Nat} {came since least : Int} (w : World) (h : PcS B w g a c rs pl 0 came since least) (h1 : 0 ≤ came) (h2 : came ≤ 1000000) (h3 : 0 ≤ since) (h4 : since ≤ 1000000) :
    Calls Try.prog 9 #[.pointer (some ⟨g, 0, none⟩)] w fun e w' => e = .returned (.bool true) ∧ PcS B w' g a c rs pl 0 (came + 1) (since + 1) least ∧ Chg [g] w w' := by
  obtain ⟨k9, m9⟩ := h.set9 (came + 1)
  obtain ⟨k10, m10⟩ := k9.set10 (since + 1)
  have c9 := h.c9
  have f9 := h.fr 9
  have c10 := k9.c10
  have f10 := k9.fr 10
  have x8 := k10.c8
  have x9 := k10.c9
  have hb : Below ((w.setCell ⟨g, 9, none⟩ (.int .i64 (came + 1))).setCell ⟨g, 10, none⟩ (.int .i64 (since + 1))).heap.size ((w.setCell ⟨g, 9, none⟩ (.int .i64 (came + 1))).setCell ⟨g, 10, none⟩ (.int .i64 (since + 1))) ((w.setCell ⟨g, 9, none⟩ (.int .i64 (came + 1))).setCell ⟨g, 10, none⟩ (.int .i64 (since + 1))).drew := below_drs ⟨1, rfl⟩
  have x8d := (k10.keep hb).c8
  have x9d := (k10.keep hb).c9
  have HK : Hid (∀ V, Below ((w.setCell ⟨g, 9, none⟩ (.int .i64 (came + 1))).setCell ⟨g, 10, none⟩ (.int .i64 (since + 1))).heap.size ((w.setCell ⟨g, 9, none⟩ (.int .i64 (came + 1))).setCell ⟨g, 10, none⟩ (.int .i64 (since + 1))) V → PcS B V g a c rs pl 0 (came + 1) (since + 1) least ∧ Chg [g] w V) := fun V hV => ⟨k10.keep hV, (m9.trans m10 (Fresh.refl _ _)).trans (Chg.of_below hV) (Fresh.refl _ _)⟩
  clear h k9 m9 k10 m10 hb
  go_enter Try.func9, Try.ntmps9
  go_wp2_with fail
  go_region
  go_wp2_with fail
  go_ret
  exact ⟨rfl, HK.out _ (below_drs ⟨_, rfl⟩)⟩

set_option maxRecDepth 8000 in
set_option maxHeartbeats 2000000 in
theorem least_any {B g : Nat} {a : Option Addr} {c : Nat} {rs : List Int} {pl : Nat} {bud came since least : Int} (w : World) (h : PcS B w g a c rs pl bud came since least) :
    Calls Try.prog 10 #[.pointer (some ⟨g, 0, none⟩)] w fun e w' => e = .returned (.int .i64 least) ∧ w = w' := by
  have c11 := h.c11
  clear h
  go_enter Try.func10, Try.ntmps10
  go_wp2_with fail
  go_ret
  exact ⟨rfl, rfl⟩

set_option maxRecDepth 8000 in
set_option maxHeartbeats 2000000 in
theorem left_any {B g : Nat} {a : Option Addr} {c : Nat} {rs : List Int} {pl : Nat} {came since least : Int} (w : World) (h : PcS B w g a c rs pl 0 came since least) :
    Calls Try.prog 12 #[.pointer (some ⟨g, 0, none⟩)] w fun e w' => e = .returned (.int .i64 (-1)) ∧ w = w' := by
  have c8 := h.c8
  clear h
  go_enter Try.func12, Try.ntmps12
  go_wp2_with fail
  go_ret
  exact ⟨rfl, rfl⟩

/-- What Restart answers, and leaves. -/
def RsR (B : Nat) (w : World) (g : Nat) (a : Option Addr) (c : Nat) (rs : List Int) (bud came since least : Int) (e : Ending) (w' : World) : Prop :=
  ∃ (b : Bool) (pl' : Nat), e = .returned (.bool b) ∧ (b = true → least ≤ since) ∧ PcS B w' g a c rs pl' bud came (if b then 0 else since) (if b then least + 8 else least) ∧ Chg [g] w w'
def CtR (B : Nat) (w : World) (g : Nat) (a : Option Addr) (c : Nat) (rs : List Int) (bud came since least : Int) (t : Value) (V : World) : Prop :=
  ∃ (b : Bool) (pl' : Nat), t = .bool b ∧ PcS B V g a c rs pl' bud came since least ∧ Chg [g] w V

set_option maxRecDepth 8000 in
set_option maxHeartbeats 4000000 in
theorem restart_any {B g : Nat} {a : Option Addr} {c : Nat} {rs : List Int} {pl : Nat} {bud came since least : Int} (w : World) (h : PcS B w g a c rs pl bud came since least) (hi : ∀ x ∈ rs, -9223372036854775808 ≤ x ∧ x ≤ 9223372036854775807) (h1 : 0 ≤ since) (h2 : since ≤ 1000000) (h3 : 0 ≤ least) (h4 : least ≤ 1000000) :
    Calls Try.prog 11 #[.pointer (some ⟨g, 0, none⟩)] w (RsR B w g a c rs bud came since least) := by
  have c10 := h.c10
  have c11 := h.c11
  have c10d := (h.keep (below_drs (w := w) (w' := w.drew) ⟨1, rfl⟩)).c10
  have c11d := (h.keep (below_drs (w := w) (w' := w.drew) ⟨1, rfl⟩)).c11
  have HK : Hid (∀ V, Below w.heap.size w V → PcS B V g a c rs pl bud came since least) := fun V hV => h.keep hV
  have HNX : Hid (∀ V, Below w.heap.size w V → Calls Try.prog 15 #[.pointer (some ⟨g, 0, none⟩)] V (NxR B V g a c rs bud came since least)) := fun V hV => next_any V (h.keep hV) hi
  have HEV := Lib.hid (fun x V => even_any x V)
  clear h hi
  by_cases hlt : since < least
  · have d1 : decide (since < least) = true := decide_eq_true hlt
    go_enter Try.func11, Try.ntmps11
    go_wp2_with fail
    go_region
    go_wp2_with fail
    go_ret
    refine ⟨false, pl, rfl, (fun e => by cases e), HK.out _ (below_drs ⟨_, rfl⟩), Chg.of_below (below_drs ⟨_, rfl⟩)⟩
  · have d1 : decide (since < least) = false := decide_eq_false hlt
    go_enter Try.func11, Try.ntmps11
    go_upto_region 1 with fail
    have HBD : Hid (∀ k, Below w.heap.size w (w.drewN k)) := fun k => below_drs ⟨k, rfl⟩
    go_cut [18] (CtR B w g a c rs bud came since least)
    case first =>
      go_region_with (first
        | (go_at_call 15; refine (HNX.out _ (by first | exact HBD.out 0 | exact HBD.out 1 | exact HBD.out _)).mono ?_; rintro e w5 ⟨x, pl5, rfl, hx1, hx2, hP5, hC5⟩; have HE5 := Lib.hid (fun V => HEV.out x V hx1 hx2); have HP5 := Lib.hid hP5; have HC5 := Lib.hid hC5; clear hx1 hx2 hP5 hC5)
        | (go_at_call 14; refine (HE5.out _).mono ?_; rintro e w6 ⟨b, rfl, rfl⟩))
      all_goals
        go_wp2_with fail
        go_meet
        exact ⟨_, _, rfl, HP5.out, by first | exact HC5.out | exact (Chg.of_below (HBD.out 1)).trans HC5.out (Fresh.refl _ _)⟩
    case rest =>
      obtain ⟨b, pl', rfl, hP, hC⟩ := hcut
      have HC := Lib.hid hC
      cases b with
      | true =>
        have HP := Lib.hid hP
        clear hP hC
        go_wp2_with fail
        go_ret
        exact ⟨false, pl', rfl, (fun e => by cases e), HP.out, HC.out⟩
      | false =>
        obtain ⟨k10, m10⟩ := hP.set10 0
        obtain ⟨k11, m11⟩ := k10.set11 (least + 8)
        have e10 := hP.c10
        have f10 := hP.fr 10
        have e11 := k10.c11
        have f11 := k10.fr 11
        have HE : Hid (PcS B ((wc.setCell ⟨g, 10, none⟩ (.int .i64 0)).setCell ⟨g, 11, none⟩ (.int .i64 (least + 8))) g a c rs pl' bud came 0 (least + 8) ∧ Chg [g] w ((wc.setCell ⟨g, 10, none⟩ (.int .i64 0)).setCell ⟨g, 11, none⟩ (.int .i64 (least + 8)))) := ⟨k11, HC.out.trans (m10.trans m11 (Fresh.refl _ _)) (Fresh.refl _ _)⟩
        have HLE : Hid (least ≤ since) := by unfold Hid; omega
        clear hP hC k10 m10 k11 m11 c10 c11 c10d c11d
        go_wp2_with fail
        go_ret
        exact ⟨true, pl', rfl, fun _ => HLE.out, HE.out.1, HE.out.2⟩
end Go.Proofs.Ytnhmeojcjnkebaa
