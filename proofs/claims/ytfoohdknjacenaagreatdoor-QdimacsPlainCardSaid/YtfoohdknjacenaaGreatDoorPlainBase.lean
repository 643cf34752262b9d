/- What the laws of chapter 5 share: 'first' answers true. Conditions: the errors and the table of powers of ten lie as the program lays them. · Contracts of skolemref.SameClauses and SameCNF at the same lists: true. Conditions: both slices read as these clauses. · Contracts of skolemmake.Clauses and CNF: clauses of right literals, not too many, in memory of the call's own. Conditions: the slice reads as 64-bit ints and is short; 1 to 100 variables. · The contract of skolemref.Bytes: a copy. Conditions: the slice reads as bytes, and is not too long. · Plain facts: what the clauses' text tells as a formula; what it tells with a block's line behind. Nothing of the program. · The contract of lits.Check: which fault it tells. Conditions: the clauses read as lists of 64-bit ints, short ones; the package's errors lie as 'Sents' says. · The contract of qdimacs.Check: which fault it tells. Conditions: the formula reads as lists of 64-bit ints, short ones; the package's errors lie as 'Sents8' says. · Contracts of the document's own skolemref1.at, text, plain, Head. Conditions: the slice reads as words, each of some bytes. · Contracts of the document's own skolemref1.Head. Conditions: the slice reads as words, each of some bytes. · Contracts of the document's own skolemref1.Is, Clauses. Conditions: the slice reads as words, each of some bytes. · The contract of skolemmake.Near: whether all ints of the slice are at least -2^60. Conditions: the slice reads as the list named. · Contracts of skolemmake.NearAll, skolemmake.Count and of the document's own skolemref1.CheckCNF. Conditions: the clauses read as lists of 64-bit ints, few and short ones. · The contract of skolemlaw5.light: is a formula small. Conditions: the formula reads as lists of 64-bit ints, their reach as it is. · Plain facts: a light formula that Check finds right has a short text, which reads as the formula. Nothing of the program. · Facts for two blocks of one variable: what Check tells of them; how they lie in memory. No conditions beyond those typed. · From the way in which an argument is handed over (a row of ints in memory) to 'RowAt'. No conditions beyond those typed. · From the way in which an argument is handed over (a row of ints, a slice of such rows) to 'RowAt', 'RowsAt', with the rows' bounds and the reach. No conditions beyond those typed. -/
import Derived.Test.YtfoohdknjacenaaGreatDoorBlkB
import Derived.Test.YtfoohdknjacenaaGreatDoorReadF
import Derived.Test.YtfoohdknjacenaaGreatDoorSee
import Derived.Test.YtfoohdknjacenaaGreatDoorFault
import Derived.Test.YtfoohdknjacenaaGreatDoorClIG
import Derived.Test.YtfoohdknjacenaaGreatDoorSameG
import Derived.Test.YtfoohdknjacenaaGreatDoorRead
import Derived.Deep.RegionWith
import Derived.Test.YtfoohdknjacenaaGreatDoorHeadP
import Derived.Test.YtfoohdknjacenaaGreatDoorSmall
import Derived.Deep.Light
import Derived.Test.YtfoohdknjacenaaGreatDoorAppStr
import Derived.Test.YtfoohdknjacenaaGreatDoorFormP
import Derived.Test.YtfoohdknjacenaaGreatDoorCheckP
import Derived.Test.YtfoohdknjacenaaGreatDoorBlkT
import Derived.Test.YtfoohdknjacenaaGreatDoorBlkD
import Derived.Test.YtfoohdknjacenaaGreatDoorReadD
import Derived.Test.YtfoohdknjacenaaGreatDoorBase
import Derived.Test.YtfoohdknjacenaaGreatDoorChecked
import Derived.Lib.Hide
import Derived.Test.YtfoohdknjacenaaGreatDoorBlkM
import Derived.Test.YtfoohdknjacenaaGreatDoorTextQ
import Derived.OpenShut
import Derived.Test.YtfoohdknjacenaaGreatDoorRows
import Derived.Deep.Matrix
import Derived.SizedLaws
import Derived.Lib.SmallJoins
namespace Go.Proofs.YtfoohdknjacenaaGreatDoor
open Go.RowKit

theorem readF_nil : readFL [] = (0, [], [], [], .text 0) := by
  have hw : wordsL true [] = [] := splitL_nil _ _ _ _
  have hh : headL [] = (0, 0, .text 0) := by unfold headL; rw [if_pos (fun h => absurd h.1 (by simp))]
  unfold readFL
  rw [hw, hh]
  rfl
theorem fText_pos (v : Int) (bs : List Blk) (xss : List (List Int)) : 0 < (fTextL v bs xss).length := by
  unfold fTextL headT
  simp
theorem itoa0 : itoaL 0 = [48] := by rw [itoaL_pos (by omega)]; exact decL_small (by decide)
theorem fText_zero : (fTextL 0 [] []).length ≤ 10000 := by
  unfold fTextL headT
  rw [List.length_nil, show ((0 : Nat) : Int) = 0 from rfl, itoa0]
  decide

set_option maxHeartbeats 1000000 in
theorem first5_any (A : Nat → Addr) (w : World) (hS : Sents8 w A) (ht : Tabs w) : Calls Tryz.prog 6 #[] w fun e w' => e = .returned (.bool true) ∧ Below w.heap.size w w' := by
  have HR := Lib.hid (readF_any A (.slice none 0 0) [] w hS (RowG.nil _ _ _) Bts.nil (by simp))
  rw [readF_nil] at HR
  have HP := Lib.hid (fun W => placed_any 101 0 W (by omega))
  have HY := Lib.hid (fun ev W (h : ErrAs W ev 101 true 0) => see_yes ev 101 true 0 W h)
  have HSS := Lib.hid (fun W (hW : Below w.heap.size w W) => (hS.keep hW).toSents)
  have HBY : Hid (∀ W, Below w.heap.size w W → Calls Tryz.prog 14 #[.agg #[.slice none 0 0, .int .i64 0, .slice none 0 0]] W fun e w' => (∃ a k c, e = .returned (.slice a k c) ∧ 0 < k) ∧ Below W.heap.size W w') := fun W hW => by
    refine (bytesF_any 0 none 0 [] none 0 [] W (by omega) (BRowsAt.nil W) ⟨Nat.le_refl _, by unfold maxLen; omega, .inl rfl⟩ (by simp) (by simp) fText_zero (by simp) (by simp) (ht.keep hW)).mono ?_
    rintro e w' ⟨⟨v, rfl, ho⟩, hb⟩
    obtain ⟨a, k, c, rfl, hk, _⟩ := bopen ho
    exact ⟨⟨a, k, c, rfl, by rw [hk]; exact fText_pos _ _ _⟩, hb⟩
  unfold RFPost at HR
  clear hS ht
  go_enter Tryz.func6, Tryz.ntmps6
  go_wp2_with (first
    | (go_at_call 7; refine HR.out.mono ?_; rintro e w1 ⟨⟨bv, cv, ov, rfl, hB, hC, hO⟩, hb1⟩; obtain ⟨a8, c8, rfl, _⟩ := hB.rows; obtain ⟨a9, c9, rfl, _⟩ := hC.rows; have hs1 := hb1.size; have hE := hO.err (HSS.out _ hb1))
    | (go_at_call 21; refine (HP.out _).mono ?_; rintro e w2 ⟨rfl, hb2⟩; have hq : Below w1.heap.size w1 w2 := ((Below.refl _ w1).alloc (Nat.le_refl _) _).trans (hb2.mono (by simp)))
    | (go_at_call 10; refine (HY.out _ _ (hE.keep hq)).mono ?_; rintro e w3 ⟨rfl, hb3⟩; have hq3 := hb1.trans ((hq.trans (hb3.mono hq.size)).mono hs1))
    | (go_at_call 14; refine (HBY.out _ hq3).mono ?_; rintro e w4 ⟨⟨a7, k7, c7, rfl, hk7⟩, hb4⟩; have hk8 : (0 : Int) < k7 := (by omega)))
  (try go_ret)
  exact ⟨rfl, hq3.trans (hb4.mono hq3.size)⟩
end Go.Proofs.YtfoohdknjacenaaGreatDoor

namespace Go.Proofs.YtfoohdknjacenaaGreatDoor
open Go.RowKit

set_option maxHeartbeats 2000000 in
theorem sameClauses_yes (a a' : Option Addr) (c c' : Nat) (xss : List (List Int)) (w : World) (hv : RowsAt w a c xss) (hu : RowsAt w a' c' xss) :
    Calls Tryz.prog 50 #[.slice a xss.length c, .slice a' xss.length c'] w fun e w' => e = .returned (.bool true) ∧ Below w.heap.size w w' := by
  obtain ⟨h1, h2, h3⟩ := hv
  obtain ⟨h4, h5, h6⟩ := hu
  unfold maxLen at h2 h5
  have h1c : ((xss.length : Int) != xss.length) = false := by simp
  have HV := Lib.hid h3; clear h3
  have HU := Lib.hid h6; clear h6
  generalize hn : xss.length = n at *
  clear hn
  go_enter Tryz.func50, Tryz.ntmps50
  go_wp2_with fail
  go_loopw [5] (fun i wr => ∃ k : Nat, k ≤ n ∧ i = .int .i64 k ∧ Below w.heap.size w wr) (fun i _ => n - (intOf i).toNat)
  case atStart => exact ⟨0, Nat.zero_le _, rfl, Below.refl _ _⟩
  case round =>
    obtain ⟨k, hk, rfl, hbr⟩ := hrel
    by_cases hlt : k < n
    · obtain ⟨b, off, e1, hb, hc⟩ := HV.out.resolve_left (by omega)
      obtain ⟨b', off', e2, hb', hc'⟩ := HU.out.resolve_left (by omega)
      subst e1; subst e2
      obtain ⟨v, g1, r1⟩ := hc k hlt
      obtain ⟨u, g2, r2⟩ := hc' k hlt
      have g1' := (hbr.cell (p := ⟨b, off + k, none⟩) hb).trans g1
      have g2' := (hbr.cell (p := ⟨b', off' + k, none⟩) hb').trans g2
      have HS := Lib.hid (fun W (hW : Below w.heap.size w W) => sameInts_any v u _ _ W (r1.keep hW) (r2.keep hW))
      obtain ⟨av, cv, rfl, _⟩ := r1
      obtain ⟨au, cu, rfl, _⟩ := r2
      have hkc : (k : Int) < n := by omega
      clear g1 g2 hc hc'
      generalize (xss.getD k []) = ys at *
      generalize ys.length = m at *
      have hd : decide (ys = ys) = true := by simp
      rw [hd] at HS
      clear hd
      go_wp2_with fail
      go_region_with (go_at_call 73; refine (HS.out _ (by first | exact hbr | exact hbr.drew | exact below_drewN hbr _)).mono ?_; rintro e w2 ⟨rfl, hw2⟩; have hb2 := (show Below w.heap.size w _ by first | exact hbr.drew | exact hbr).trans ((below_draws hw2).mono (by have := hbr.size; simpa using this)))
      all_goals
        clear hw2
        go_wp2_with fail
      all_goals exact ⟨⟨k + 1, by omega, by go_num, hb2⟩, by simp [intOf]; omega⟩
    · have hkn : k = n := by omega
      subst hkn
      go_wp2_with fail
      go_ret
      exact ⟨rfl, hbr⟩

set_option maxHeartbeats 1000000 in
theorem sameCNF_yes (vars : Int) (a a' : Option Addr) (c c' : Nat) (xss : List (List Int)) (w : World) (hv : RowsAt w a c xss) (hu : RowsAt w a' c' xss) :
    Calls Tryz.prog 20 #[.agg #[.int .i64 vars, .slice a xss.length c], .agg #[.int .i64 vars, .slice a' xss.length c']] w fun e w' => e = .returned (.bool true) ∧ Below w.heap.size w w' := by
  have HS := Lib.hid (fun W (hW : Below w.heap.size w W) => sameClauses_yes a a' c c' xss W (hv.keep hW) (hu.keep hW))
  have HB := Lib.hid (fun o1 o2 => show Below w.heap.size w ((w.alloc o1).alloc o2) from ((Below.refl _ w).alloc (Nat.le_refl _) _).alloc (by simp) _)
  have hvv : (vars == vars) = true := by simp
  clear hv hu
  generalize xss.length = n at *
  go_enter Tryz.func20, Tryz.ntmps20
  go_wp2_with (go_at_call 50; refine (HS.out _ (HB.out _ _)).mono ?_; rintro e w2 ⟨rfl, hb2⟩)
  go_ret
  exact ⟨rfl, (HB.out _ _).trans (hb2.mono (by simp; omega))⟩
end Go.Proofs.YtfoohdknjacenaaGreatDoor

namespace Go.Proofs.YtfoohdknjacenaaGreatDoor
open Go.RowKit

set_option maxHeartbeats 400000 in
theorem number_big (n : Int) (w : World) (h1 : -9223372036854775808 ≤ n) (h2 : n ≤ 9223372036854775807) :
    Calls Tryz.prog 71 #[.int .i64 n, .int .i64 1099511627776] w fun e w' => e = .returned (.int .i64 (n % 1099511627776)) ∧ w = w' := by
  have t1 := Int.tmod_lt_of_pos n (show (0 : Int) < 1099511627776 by omega)
  have t2 : -1099511627776 < n.tmod 1099511627776 := Int.lt_tmod_of_pos n (by omega)
  have t3 : n.tmod 1099511627776 < 0 → n.tmod 1099511627776 + 1099511627776 = n % 1099511627776 := fun h => by
    rw [Int.emod_eq_tmod, if_neg]
    · simp
    · intro h'
      rcases h' with h' | h'
      · have := Int.tmod_nonneg 1099511627776 h'; omega
      · rw [Int.tmod_eq_zero_of_dvd h'] at h; omega
  have t4 : ¬ n.tmod 1099511627776 < 0 → n.tmod 1099511627776 = n % 1099511627776 := fun h => by
    rw [Int.emod_eq_tmod, if_pos]
    · simp
    · by_cases h0 : 0 ≤ n
      · exact .inl h0
      · right
        have hneg := Int.tmod_nonneg (a := -n) 1099511627776 (by omega)
        rw [Int.neg_tmod] at hneg
        have h0' : n.tmod 1099511627776 = 0 := by omega
        exact Int.dvd_of_tmod_eq_zero h0'
  have H3 := Lib.hid t3; clear t3
  have H4 := Lib.hid t4; clear t4
  by_cases hneg : n.tmod 1099511627776 < 0
  · go_enter Tryz.func71, Tryz.ntmps71
    go_wp2
    go_ret
    exact ⟨ret_int (H3.out hneg), rfl⟩
  · go_enter Tryz.func71, Tryz.ntmps71
    go_wp2
    go_ret
    exact ⟨ret_int (H4.out hneg), rfl⟩

/-- The clauses made of k numbers. -/
structure Good (m : Int) (dn : List (List Int)) (cur : List Int) (k : Nat) : Prop where
  l1 : ∀ c ∈ dn, ∀ l ∈ c, l ≠ 0 ∧ isF l m = true
  l2 : ∀ l ∈ cur, l ≠ 0 ∧ isF l m = true
  sum : (dn.map List.length).sum + cur.length ≤ k
  len : dn.length + (if cur = [] then 0 else 1) ≤ k
theorem litOf_good (n m : Int) (h : 1 ≤ m) : litOf n m ≠ 0 ∧ isF (litOf n m) m = true := by
  have h1 := litOf_bd n m (by omega)
  unfold isF
  simp
  exact ⟨h1.1, h1.2.2, h1.2.1⟩
theorem Good.start (m : Int) : Good m [] [] 0 := ⟨fun _ h => (by cases h), fun _ h => (by cases h), by simp, by simp⟩
theorem Good.add {m : Int} {dn : List (List Int)} {cur : List Int} {k : Nat} (h : Good m dn cur k) (n : Int) (hm : 1 ≤ m) : Good m dn (cur ++ [litOf n m]) (k + 1) := by
  refine ⟨h.l1, fun l hl => ?_, by have := h.sum; simp; omega, by have := h.len; simp; split at this <;> omega⟩
  rw [List.mem_append] at hl
  rcases hl with hl | hl
  · exact h.l2 l hl
  · have e : l = litOf n m := by simpa using hl
    subst e
    exact litOf_good n m hm
theorem Good.push {m : Int} {dn : List (List Int)} {cur : List Int} {k : Nat} (h : Good m dn cur k) (hc : cur ≠ []) : Good m (dn ++ [cur]) [] k := by
  refine ⟨fun c hc => ?_, fun _ h => (by cases h), by have := h.sum; simp; omega, by have := h.len; rw [if_neg hc] at this; simp; omega⟩
  rw [List.mem_append] at hc
  rcases hc with hc | hc
  · exact h.l1 c hc
  · have e : c = cur := by simpa using hc
    subst e
    exact h.l2
theorem Good.last {m : Int} {dn : List (List Int)} {k : Nat} (h : Good m dn [] k) : (∀ c ∈ dn, ∀ l ∈ c, l ≠ 0 ∧ isF l m = true) ∧ (dn.map List.length).sum ≤ k ∧ dn.length ≤ k := ⟨h.l1, by have := h.sum; simp at this; omega, by have := h.len; simp at this; omega⟩
theorem Good.last' {m : Int} {dn : List (List Int)} {k n : Nat} (h : Good m dn [] k) (hk : k ≤ n) : (∀ c ∈ dn, ∀ l ∈ c, l ≠ 0 ∧ isF l m = true) ∧ (dn.map List.length).sum ≤ n ∧ dn.length ≤ n := ⟨h.last.1, by have := h.last.2.1; omega, by have := h.last.2.2; omega⟩
def MakePost (w : World) (n : Nat) (m : Int) (e : Ending) (w' : World) : Prop :=
  (∃ v xss, e = .returned v ∧ CRow w' w.heap.size v xss ∧ (∀ c ∈ xss, ∀ l ∈ c, l ≠ 0 ∧ isF l m = true) ∧ (xss.map List.length).sum ≤ n ∧ xss.length ≤ n) ∧ Below w.heap.size w w'

set_option maxRecDepth 4000 in
set_option maxHeartbeats 4000000 in
theorem makeCl_any (a : Option Addr) (c : Nat) (cs : List Int) (m : Int) (w : World) (hm1 : 1 ≤ m) (hm2 : m ≤ 100) (hv : RowAt w a c cs) (hcs : ∀ y ∈ cs, -9223372036854775808 ≤ y ∧ y ≤ 9223372036854775807) (hn : cs.length ≤ 200) :
    Calls Tryz.prog 49 #[.slice a cs.length c, .int .i64 m] w (MakePost w cs.length m) := by
  obtain ⟨hvc, hcm, hv⟩ := hv
  unfold maxLen at hcm
  have HX := Lib.hid hv; clear hv
  have HC := Lib.hid (fun k => show -9223372036854775808 ≤ cs.getD k 0 ∧ cs.getD k 0 ≤ 9223372036854775807 by
    by_cases hk : k < cs.length
    · have := hcs _ (List.getElem_mem hk); simpa [List.getD, hk] using this
    · simp [List.getD, show cs.length ≤ k by omega])
  clear hcs
  generalize cs.length = n at *
  go_enter Tryz.func49, Tryz.ntmps49
  go_wp2_with fail
  go_loopw [5, 6, 7] (fun o c i wr => ∃ (k : Nat) (vs : List Value) (dn : List (List Int)) (cur : List Int), k ≤ n ∧ i = .int .i64 k ∧ ClG wr w.heap.size o c vs dn cur ∧ Below w.heap.size w wr ∧ dn.length ≤ k ∧ cur.length ≤ k ∧ Hid (Good m dn cur k)) (fun _ _ i _ => n - (intOf i).toNat)
  case atStart => exact ⟨0, _, _, _, Nat.zero_le _, rfl, ClG.start w _, Below.refl _ _, Nat.le_refl _, Nat.le_refl _, Good.start m⟩
  case round =>
    obtain ⟨k, vs, dn, cur, hk, rfl, hI, hbr, hl1, hl2, HG0⟩ := hrel
    have hownc := hI.row
    obtain ⟨ac, capc, rfl, hcc1, hcc2⟩ := own_shape hI.row
    unfold maxLen at hcc2
    by_cases hlt : k < n
    · obtain ⟨b, off, ha, hb, hx⟩ := HX.out.resolve_left (by omega)
      subst ha
      have HG := Lib.hid (fun W (h : Below w.heap.size w W) => (h.cell (p := ⟨b, off + k, none⟩) hb).trans (hx k hlt))
      have hbd := HC.out k
      clear hx
      generalize cs.getD k 0 = z at *
      obtain ⟨hz1, hz2⟩ := hbd
      have g1 := HG.out _ hbr
      have N7 := Lib.hid (fun W => number_any z 7 W (by omega) (by omega) hz1 hz2)
      have NB := Lib.hid (fun W => number_big z W hz1 hz2)
      have hx1 := Int.emod_nonneg z (show (1099511627776 : Int) ≠ 0 by omega)
      have hx2 := Int.emod_lt_of_pos z (show (0 : Int) < 1099511627776 by omega)
      have hr1 := Int.emod_nonneg z (show (7 : Int) ≠ 0 by omega)
      generalize z % 7 = r at *
      generalize z % 1099511627776 = x at *
      have LT := Lib.hid (fun (y : Int) W (h1 : -9223372036854775808 ≤ y) (h2 : y ≤ 9223372036854775807) => lit_any y m W (by omega) (by omega) h1 h2)
      have HBR := Lib.hid hbr
      clear hbr
      have hd1 := Int.tdiv_nonneg hx1 (show (0 : Int) ≤ 7 by omega)
      have hd2 := Int.tdiv_le_self 7 hx1
      have hl3 : cur = [] ↔ cur.length = 0 := List.length_eq_zero_iff.symm
      by_cases hr0 : r = 0
      · subst hr0
        by_cases hc0 : cur.length = 0
        · generalize hcl : cur.length = cl at *
          subst hc0
          have HCL := Lib.hid hcl
          clear hl3 hcl
          go_wp2_with (first
            | (go_at_call_of 71 (Value.int IntKind.i64 (7 : Int)); refine (N7.out _).mono ?_; rintro e w' ⟨rfl, rfl⟩)
            | (go_at_call 71; refine (NB.out _).mono ?_; rintro e w' ⟨rfl, rfl⟩)
            | (go_at_call 72; refine (LT.out _ _ (by omega) (by omega)).mono ?_; rintro e w' ⟨rfl, rfl⟩)
            | (at_builtin; refine wpList_app1 rfl _ _ rfl wr w.heap.size _ _ _ _ hownc HBR.out.size (by omega) rfl rfl ?_; intro v' w2 hown2 hap))
          go_roundw
          case rel => exact ⟨k + 1, vs, dn, cur ++ [_], by omega, by go_num, hI.add hap (by rw [HCL.out]; exact hown2), HBR.out.trans hap.below, by omega, by rw [List.length_append, HCL.out, List.length_singleton]; omega, HG0.out.add _ hm1⟩
          case measure => go_light; simp [intOf]; omega
        · have hne : cur ≠ [] := fun e => hc0 (hl3.1 e)
          clear hl3
          generalize hcl : cur.length = cl at *
          have HCL := Lib.hid hcl
          clear hcl
          go_wp2_with (first
            | (go_at_call_of 71 (Value.int IntKind.i64 (7 : Int)); refine (N7.out _).mono ?_; rintro e w' ⟨rfl, rfl⟩)
            | (go_at_call 71; refine (NB.out _).mono ?_; rintro e w' ⟨rfl, rfl⟩)
            | (go_at_call 72; refine (LT.out _ _ (by omega) (by omega)).mono ?_; rintro e w' ⟨rfl, rfl⟩)
            | (at_builtin; refine wpList_appV 25 46 (.slice none 0 0) 24 Tryz.underlying25 infoInts rfl (by decide) rfl _ _ rfl wr w.heap.size _ _ _ _ rfl hI.out HBR.out.size (by omega) _ rfl rfl rfl ?_; intro o' w2 ho2 hap2; have hI2 := hI.push hap2 ho2; have HB2 := Lib.hid (HBR.out.trans hap2.below); have g2 := HG.out _ HB2.out)
            | (at_builtin; refine wpList_app1 rfl _ _ rfl w2 w.heap.size _ _ _ _ hI2.row HB2.out.size (by simp) rfl rfl ?_; intro v' w3 hown3 hap3))
          go_roundw
          case rel => exact ⟨k + 1, _, _, [] ++ [_], by omega, by go_num, hI2.add hap3 hown3, HB2.out.trans hap3.below, by simp; omega, by simp, (HG0.out.push hne).add _ hm1⟩
          case measure => go_light; simp [intOf]; omega
      · have hr0b : (r == 0) = false := by simp [hr0]
        by_cases hc5 : 5 ≤ cur.length
        · have hne : cur ≠ [] := fun e => by have := hl3.1 e; omega
          clear hl3 hr0
          generalize hcl : cur.length = cl at *
          have HCL := Lib.hid hcl
          clear hcl
          go_wp2_with (first
            | (go_at_call_of 71 (Value.int IntKind.i64 (7 : Int)); refine (N7.out _).mono ?_; rintro e w' ⟨rfl, rfl⟩)
            | (go_at_call 71; refine (NB.out _).mono ?_; rintro e w' ⟨rfl, rfl⟩)
            | (go_at_call 72; refine (LT.out _ _ (by omega) (by omega)).mono ?_; rintro e w' ⟨rfl, rfl⟩)
            | (at_builtin; refine wpList_appV 25 46 (.slice none 0 0) 24 Tryz.underlying25 infoInts rfl (by decide) rfl _ _ rfl wr w.heap.size _ _ _ _ rfl hI.out HBR.out.size (by omega) _ rfl rfl rfl ?_; intro o' w2 ho2 hap2; have hI2 := hI.push hap2 ho2; have HB2 := Lib.hid (HBR.out.trans hap2.below); have g2 := HG.out _ HB2.out)
            | (at_builtin; refine wpList_app1 rfl _ _ rfl w2 w.heap.size _ _ _ _ hI2.row HB2.out.size (by simp) rfl rfl ?_; intro v' w3 hown3 hap3))
          go_roundw
          case rel => exact ⟨k + 1, _, _, [] ++ [_], by omega, by go_num, hI2.add hap3 hown3, HB2.out.trans hap3.below, by simp; omega, by simp, (HG0.out.push hne).add _ hm1⟩
          case measure => go_light; simp [intOf]; omega
        · clear hl3 hr0
          generalize hcl : cur.length = cl at *
          have HCL := Lib.hid hcl
          clear hcl
          go_wp2_with (first
            | (go_at_call_of 71 (Value.int IntKind.i64 (7 : Int)); refine (N7.out _).mono ?_; rintro e w' ⟨rfl, rfl⟩)
            | (go_at_call 71; refine (NB.out _).mono ?_; rintro e w' ⟨rfl, rfl⟩)
            | (go_at_call 72; refine (LT.out _ _ (by omega) (by omega)).mono ?_; rintro e w' ⟨rfl, rfl⟩)
            | (at_builtin; refine wpList_app1 rfl _ _ rfl wr w.heap.size _ _ _ _ hownc HBR.out.size (by omega) rfl rfl ?_; intro v' w2 hown2 hap))
          go_roundw
          case rel => exact ⟨k + 1, vs, dn, cur ++ [_], by omega, by go_num, hI.add hap (by rw [HCL.out]; exact hown2), HBR.out.trans hap.below, by omega, by rw [List.length_append, HCL.out, List.length_singleton]; omega, HG0.out.add _ hm1⟩
          case measure => go_light; simp [intOf]; omega
    · by_cases hc0 : cur.length = 0
      · have hc0' : cur = [] := List.length_eq_zero_iff.1 hc0
        subst hc0'
        obtain ⟨ao, capo, rfl, hrows⟩ := hI.rows
        have HRW := Lib.hid (show CRow _ _ _ _ from ⟨_, _, _, hI⟩)
        have HBR := Lib.hid hbr
        clear hrows hI hownc hc0 hbr hl2 hcc1 hcc2
        have hkn : k = n := by omega
        subst hkn
        go_wp2_with fail
        go_ret
        exact ⟨⟨_, dn, rfl, HRW.out, HG0.out.last⟩, HBR.out⟩
      · have hne : cur ≠ [] := fun e => hc0 (by rw [e]; rfl)
        have HBR := Lib.hid hbr
        clear hbr
        generalize hcl : cur.length = cl at *
        have HCL := Lib.hid hcl
        clear hcl
        go_wp2_with (at_builtin; refine wpList_appV 25 46 (.slice none 0 0) 24 Tryz.underlying25 infoInts rfl (by decide) rfl _ _ rfl wr w.heap.size _ _ _ _ rfl hI.out HBR.out.size (by omega) _ rfl rfl rfl ?_; intro o' w2 ho2 hap2; have hI2 := hI.push hap2 ho2; have HB2 := Lib.hid (HBR.out.trans hap2.below); obtain ⟨ao, capo, rfl, hrows⟩ := hI2.rows)
        go_ret
        have hI3 := hI2
        rw [show (dn ++ [cur]).length = dn.length + 1 by simp] at hI3
        exact ⟨⟨_, dn ++ [cur], rfl, ⟨_, _, _, hI3⟩, (HG0.out.push hne).last' hk⟩, HB2.out⟩

set_option maxHeartbeats 1000000 in
theorem makeCNF_any (a : Option Addr) (c : Nat) (cs : List Int) (m : Int) (w : World) (hm1 : 1 ≤ m) (hm2 : m ≤ 100) (hv : RowAt w a c cs) (hcs : ∀ y ∈ cs, -9223372036854775808 ≤ y ∧ y ≤ 9223372036854775807) (hn : cs.length ≤ 200) :
    Calls Tryz.prog 17 #[.slice a cs.length c, .int .i64 m] w fun e w' => (∃ v xss, e = .returned (.agg #[.int .i64 m, v]) ∧ CRow w' w.heap.size v xss ∧ (∀ c ∈ xss, ∀ l ∈ c, l ≠ 0 ∧ isF l m = true) ∧ (xss.map List.length).sum ≤ cs.length ∧ xss.length ≤ cs.length) ∧ Below w.heap.size w w' := by
  have HM := Lib.hid (fun W (hW : Below w.heap.size w W) => makeCl_any a c cs m W hm1 hm2 (hv.keep hW) hcs hn)
  have HB := Lib.hid (fun o => show Below w.heap.size w (w.alloc o) from (Below.refl _ w).alloc (Nat.le_refl _) _)
  unfold MakePost at HM
  clear hv hcs
  generalize cs.length = n at *
  go_enter Tryz.func17, Tryz.ntmps17
  go_wp2_with (go_at_call 49; refine (HM.out _ (HB.out _)).mono ?_; rintro e w2 ⟨⟨v, xss, rfl, hC, h1, h2, h3⟩, hb2⟩; obtain ⟨hc, hf⟩ := bcell hb2; obtain ⟨a9, c9, rfl, _⟩ := hC.rows)
  have hbw := (HB.out _).trans (hb2.mono (by simp))
  exact bodyPost_ret (v := .agg #[.int .i64 m, .slice a9 xss.length c9]) (by simp [results, Tryz.results17, go_sem, hc]) rfl ⟨⟨_, xss, rfl, ((hC.set _ _ _ (by simp)).set _ _ _ (by simp)).mono (by simp), h1, h2, h3⟩, (hbw.setCell (Nat.le_refl _) _).setCell (Nat.le_refl _) _⟩
end Go.Proofs.YtfoohdknjacenaaGreatDoor

namespace Go.Proofs.YtfoohdknjacenaaGreatDoor
open Go.RowKit

/-- 'make([]byte, 0, n)'. -/
theorem wpList_make0U {ops : Array Oper} {rest : List Oper} {o : Oper} {a : Act} {Q : Exit → Act → World → Prop} (hgd : o.guard = none) (l c : Operand) (ho : o.op = Op.makeSlice 22 l c)
    (w : World) (n : Nat) (hl : a.eval l = .int .i64 0) (hc : a.eval c = .int .i64 (n : Int)) (hn : n < 1099511627776)
    (h : ∀ w', w'.ownsRow w.heap.size 5 1 (.slice (some ⟨w.heap.size, 0, none⟩) 0 n) 0 (([] : List Int).map (Value.int .u8)) → Below w.heap.size w w' → w.heap.size < w'.heap.size → wpList Tryz.prog ops Q rest (a.put o.dst (.slice (some ⟨w.heap.size, 0, none⟩) 0 n)) w') :
    wpList Tryz.prog ops Q (o :: rest) a w := by
  obtain ⟨i0, hi, hz0, hz1, hz2⟩ := info_parts infoU8
  refine wpList_make_own _ hgd l c 22 ho w.heap.size 5 i0 (.int .u8 0) 1 Tryz.underlying22 hi hz0 hz1 _ _ _ n hl hc rfl (by rw [hz2]; omega) (by unfold maxLen; omega) (Nat.le_refl _) ?_
  intro w' h1 h2
  have hlt := h1.lt w.heap.size rfl
  exact h w' (by simpa using h1) ((Below.refl _ w).grown h2 (Nat.le_refl _) fun k hk => by cases hk) hlt.2

set_option maxHeartbeats 1000000 in
theorem copyB_any (v : Value) (xs : List Int) (w : World) (hv : RowG (Value.int .u8) 0 w v xs) (hn : xs.length ≤ 10000) :
    Calls Tryz.prog 19 #[v] w fun e w' => (∃ v', e = .returned v' ∧ w'.ownsRow w.heap.size 5 1 v' xs.length (xs.map (Value.int .u8))) ∧ Below w.heap.size w w' := by
  obtain ⟨a, c, rfl, hxc, hcm, hx⟩ := hv
  unfold maxLen at hcm
  have HX := Lib.hid hx; clear hx
  generalize hN : xs.length = n at *
  have HN := Lib.hid hN; clear hN
  go_enter Tryz.func19, Tryz.ntmps19
  go_wp2_with (at_make; refine wpList_make0U rfl _ _ rfl _ n rfl rfl (by omega) ?_; intro w1 hown hb1 hs1)
  go_loopw [3, 4] (fun o i wr => ∃ k : Nat, k ≤ n ∧ i = .int .i64 k ∧ wr.ownsRow w.heap.size 5 1 o k ((xs.take k).map (Value.int .u8)) ∧ Below w.heap.size w wr ∧ w.heap.size < wr.heap.size) (fun _ i _ => n - (intOf i).toNat)
  case atStart => exact ⟨0, Nat.zero_le _, rfl, by simpa using hown, hb1, hs1⟩
  case round =>
    obtain ⟨k, hk, rfl, hownr, hbr, hsr⟩ := hrel
    clear hown hb1 hs1
    by_cases hlt : k < n
    · obtain ⟨b, off, ha, hb, hc⟩ := HX.out.resolve_left (by omega)
      subst ha
      have g1 : wr.cell? ⟨b, off + k, none⟩ = some (.int .u8 (xs.getD k 0)) := (hbr.cell (p := ⟨b, off + k, none⟩) hb).trans (hc k hlt)
      clear hc
      have HT := Lib.hid (take_snoc xs k (by rw [HN.out]; exact hlt))
      generalize xs.getD k 0 = y at *
      go_wp2_with (at_builtin; refine wpList_app1G (Value.int .u8) 22 5 (.int .u8 0) 1 Tryz.underlying22 infoU8 rfl (by decide) rfl _ _ rfl wr w.heap.size _ _ _ y rfl hownr (by omega) (by omega) rfl rfl ?_; intro v' w2 hown2 hb3)
      go_roundw
      case rel => exact ⟨k + 1, by omega, by go_num, by rw [HT.out]; exact hown2, hbr.trans hb3.below, Nat.lt_of_lt_of_le hsr hb3.below.size⟩
      case measure => simp [intOf]; omega
    · have hkn : k = n := by omega
      rw [hkn, List.take_of_length_le (by rw [HN.out]; exact Nat.le_refl _)] at hownr
      clear hkn
      go_wp2
      go_ret
      exact ⟨⟨_, rfl, hownr⟩, hbr⟩
end Go.Proofs.YtfoohdknjacenaaGreatDoor

namespace Go.Proofs.YtfoohdknjacenaaGreatDoor

theorem fText_none (v : Int) (xss : List (List Int)) : fTextL v [] xss = textL v xss := rfl
theorem textF_read (v : Int) (xss : List (List Int)) (hv0 : 0 ≤ v) (hv1 : v ≤ 4000) (hn1 : xss.length ≤ 20000) (hc : ∀ c ∈ xss, ∀ l ∈ c, l ≠ 0 ∧ isF l v = true) : ∃ ws, readFL (textL v xss) = (v, [], xss, ws, .ok) := by
  rw [← fText_none]
  exact fText_read v [] xss [] hv0 hv1 hn1 rfl hc
theorem itoa1 : itoaL 1 = [49] := by rw [itoaL_pos (by omega)]; exact decL_small (by decide)
theorem behind_none (v : Int) : textL v [] ++ [101, 32, 49, 32, 48, 10] = fTextL v [(true, [1])] [] := by
  unfold textL fTextL blkT varsT letL
  rw [List.flatMap_cons, List.flatMap_nil, List.flatMap_cons, List.flatMap_nil, List.flatMap_nil, itoa1]
  simp
theorem behind_ok (v : Int) (hv0 : 1 ≤ v) (hv1 : v ≤ 4000) : ∃ ws, readFL (textL v [] ++ [101, 32, 49, 32, 48, 10]) = (v, [(true, [1])], [], ws, .ok) := by
  rw [behind_none]
  refine fText_read v [(true, [1])] [] [1] (by omega) hv1 (by simp) ?_ (by simp)
  unfold blksOk varsOk
  rw [if_pos (by unfold okV; simp; omega)]
  rfl
theorem behind_words (xss : List (List Int)) (k : Nat) (f : Bool) : (splitL true k f false (xss.flatMap clsT ++ [101, 32, 49, 32, 48, 10])).map (·.1) = toksC xss ++ [[101], [49], [48]] := by
  have he : xss.flatMap clsT ++ [101, 32, 49, 32, 48, 10] = ((xss.flatMap (fun (c : List Int) => c.map (fun l => (itoaL l, ([32] : List Int))) ++ [(([48] : List Int), ([10] : List Int))])) ++ [(([101] : List Int), ([32] : List Int)), ([49], [32]), ([48], [10])]).flatMap (fun p => p.1 ++ p.2) ++ [] := by
    rw [List.flatMap_append, ← clsT_toks]
    simp
  rw [he, toks_split [] (.inl rfl) _ (fun p hp => by
    rw [List.mem_append] at hp
    rcases hp with hp | hp
    · obtain ⟨c, _, hc⟩ := List.mem_flatMap.1 hp
      rw [List.mem_append] at hc
      rcases hc with hc | hc
      · obtain ⟨l, _, rfl⟩ := List.mem_map.1 hc
        exact ⟨(tok_itoa l).1, skip_one (by decide)⟩
      · have e : p = ([48], [10]) := by simpa using hc
        subst e
        exact ⟨tok0, skip_one (by decide)⟩
    · simp at hp
      rcases hp with rfl | rfl | rfl
      · exact ⟨⟨by simp, by intro x hx; simp at hx; subst hx; decide, by simp⟩, skip_one (by decide)⟩
      · exact ⟨⟨by simp, by intro x hx; simp at hx; subst hx; decide, by simp⟩, skip_one (by decide)⟩
      · exact ⟨tok0, skip_one (by decide)⟩) k f, if_pos rfl, List.append_nil, List.map_append]
  congr 1
  unfold toksC
  rw [List.map_flatMap]
  congr 1
  funext c
  simp
theorem behind_bad (v : Int) (xss : List (List Int)) (hx : xss ≠ []) (hv0 : 0 ≤ v) (hv1 : v ≤ 4000) (hn1 : xss.length ≤ 20000) (hc : ∀ c ∈ xss, ∀ l ∈ c, l ≠ 0 ∧ isF l v = true) : (readFL (textL v xss ++ [101, 32, 49, 32, 48, 10])).2.2.2.2.isOk = false := by
  have hw := head_words v xss.length (xss.flatMap clsT ++ [101, 32, 49, 32, 48, 10])
  have ht : textL v xss ++ [101, 32, 49, 32, 48, 10] = headT v xss.length ++ (xss.flatMap clsT ++ [101, 32, 49, 32, 48, 10]) := by unfold textL; rw [List.append_assoc]
  have hnum : numsW (splitL true (headT v xss.length).length true false (xss.flatMap clsT ++ [101, 32, 49, 32, 48, 10])) = numC xss ++ [none, some 1, some 0] := by
    rw [numsW_map, behind_words, List.map_append, toksC_num xss (fun c h1 l h2 => by have := (hc c h1 l h2).2; unfold isF at this; simp at this; omega)]
    congr 1
  generalize splitL true (headT v xss.length).length true false (xss.flatMap clsT ++ [101, 32, 49, 32, 48, 10]) = W at hw hnum
  have hh := head_four_ok (k0 := 0) (k1 := 2) (k2 := 6) (k3 := 7 + (itoaL v).length) (ws := W) hv0 hv1 (show (0 : Int) ≤ xss.length by omega) (by omega)
  have hd : (([112], 0, true) :: ([99, 110, 102], 2, false) :: (itoaL v, 6, false) :: (itoaL xss.length, 7 + (itoaL v).length, false) :: W : List Wd).drop 4 = W := rfl
  have hB : blkS v 0 W [] [] none = ([], 0, .ok) := blkS_stop v 0 W [] [] (fun x r e => by
    subst e
    have h1 : numL x.1 :: numsW r = numC xss ++ [none, some 1, some 0] := hnum
    cases hN : numC xss with
    | nil =>
      exfalso
      cases xss with
      | nil => exact hx rfl
      | cons c cs => unfold numC at hN; rw [List.flatMap_cons] at hN; simp at hN
    | cons y ys =>
      rw [hN] at h1
      injection h1 with h1 _
      obtain ⟨n, hn⟩ := numC_some xss y (by rw [hN]; simp)
      exact ⟨n, by rw [h1, hn]⟩)
  have hC := cl_over v [none, some 1, some 0] (by simp) xss W 0 hc hnum
  unfold readFL
  rw [ht, hw, hh, hd]
  dsimp only
  rw [hB]
  dsimp only
  rw [List.drop_zero, if_pos (show Flt.ok.isOk = true from rfl), if_pos (show Flt.ok.isOk = true from rfl), if_neg (by rw [hC]; simp)]
  exact hC
end Go.Proofs.YtfoohdknjacenaaGreatDoor

namespace Go.Proofs.YtfoohdknjacenaaGreatDoor
open Go.RowKit

/-- What Check leaves. -/
def CheckPost (w : World) (vars : Int) (xss : List (List Int)) (e : Ending) (w' : World) : Prop :=
  ∃ ev c p k, e = .returned ev ∧ CheckF vars xss c p k ∧ ErrAs w' ev c p k ∧ (c = 0 → ev = .nilIface) ∧ (c ≠ 0 → ∃ t v, ev = .iface t v) ∧ Below w.heap.size w w'

set_option maxHeartbeats 2000000 in
theorem check_any (A : Nat → Addr) (vars : Int) (a : Option Addr) (cap : Nat) (xss : List (List Int)) (w : World) (hS : Sents w A) (hv1 : -9223372036854775808 ≤ vars) (hv2 : vars ≤ 9223372036854775807) (hr : RowsAt w a cap xss)
    (hint : ∀ xs ∈ xss, ∀ l ∈ xs, -9223372036854775807 ≤ l ∧ l ≤ 9223372036854775807) (hlen : ∀ xs ∈ xss, xs.length < 1000000000) :
    Calls Tryz.prog 39 #[.agg #[.int .i64 vars, .slice a xss.length cap]] w (CheckPost w vars xss) := by
  obtain ⟨hc1, hc2, hr⟩ := hr
  unfold maxLen at hc2
  have HR := Lib.hid hr; clear hr
  have HI := Lib.hid hint; clear hint
  have HLEN := Lib.hid hlen; clear hlen
  have HS := Lib.hid hS
  have s1 : w.cell? ⟨0, 0, none⟩ = some (.iface 179 (.pointer (some (A 1)))) := hS.c1
  have s3 : w.cell? ⟨1, 0, none⟩ = some (.iface 179 (.pointer (some (A 3)))) := hS.c3
  have z1 : 0 < w.heap.size := World.block_lt_of_cell? w _ s1
  have z3 : 1 < w.heap.size := World.block_lt_of_cell? w _ s3
  clear hS
  have hbw : ∀ o, Below w.heap.size w (w.alloc o) := fun o => (Below.refl _ w).alloc (Nat.le_refl _) _
  have HB := Lib.hid hbw; clear hbw
  have HL : Hid (∀ W, Below w.heap.size w W → tooMuch vars xss → CheckPost w vars xss (.returned (sentV A 1)) W) := fun W hW ht =>
    ⟨sentV A 1, 102, false, 0, rfl, .inl ⟨ht, rfl, rfl, rfl⟩, errAs_sent (HS.out.keep hW) 1 (by omega), fun h => by omega, fun _ => ⟨_, _, rfl⟩, hW⟩
  generalize hN : xss.length = n at *
  have HN := Lib.hid hN; clear hN
  by_cases hvn : vars < 0
  · have HT := Lib.hid (show tooMuch vars xss from .inl hvn)
    go_enter Tryz.func39, Tryz.ntmps39
    go_wp2_with fail
    go_ret
    exact HL.out _ (HB.out _) HT.out
  have hd1 : decide (vars < 0) = false := by simpa using hvn
  by_cases hvp : 4000 < vars
  · have HT := Lib.hid (show tooMuch vars xss from .inr (.inl hvp))
    go_enter Tryz.func39, Tryz.ntmps39
    go_wp2_with fail
    go_ret
    exact HL.out _ (HB.out _) HT.out
  have hd2 : decide (4000 < vars) = false := by simpa using hvp
  by_cases hnp : 20000 < n
  · have HT := Lib.hid (show tooMuch vars xss from .inr (.inr (.inl (by rw [HN.out]; exact hnp))))
    go_enter Tryz.func39, Tryz.ntmps39
    go_wp2_with fail
    go_ret
    exact HL.out _ (HB.out _) HT.out
  have hd3 : decide (20000 < (n : Int)) = false := by simp; omega
  go_enter Tryz.func39, Tryz.ntmps39
  go_wp2_with fail
  go_loop [3, 28] (fun s i => ∃ k : Nat, k ≤ n ∧ i = .int .i64 k ∧ s = .int .i64 (sumTo xss k) ∧ sumTo xss k ≤ 80000) (fun _ i => n - (intOf i).toNat)
  case atStart => exact ⟨0, Nat.zero_le _, rfl, rfl, by simp [sumTo]⟩
  case round =>
    obtain ⟨k, hk, rfl, rfl, hsum⟩ := hrel
    by_cases hlt : k < n
    · obtain ⟨b, off, ha, hb, hc⟩ := HR.out.resolve_left (by omega)
      subst ha
      obtain ⟨v, g1, hv⟩ := hc k hlt
      clear hc
      have hkl : k < xss.length := by rw [HN.out]; exact hlt
      have HSU := Lib.hid (sumTo_succ xss k hkl)
      have hle : (xss.getD k []).length < 1000000000 := HLEN.out _ (by simp [List.getD, hkl])
      have HMO := Lib.hid (sumTo_mono xss (k + 1) xss.length (by omega))
      clear hkl
      obtain ⟨av, cv, rfl, hrv⟩ := hv
      clear hrv
      generalize (xss.getD k []).length = m at *
      by_cases hs : 80000 < sumTo xss k + m
      · have HT := Lib.hid (show tooMuch vars xss from .inr (.inr (.inr (by have := HMO.out; rw [HSU.out] at this; omega))))
        generalize sumTo xss k = sk at *
        go_wp2_with fail
        go_ret
        exact HL.out _ (HB.out _) HT.out
      · generalize hsk : sumTo xss k = sk at *
        go_wp2_with fail
        go_round
        case rel => exact ⟨k + 1, by omega, by go_num, by rw [HSU.out]; go_num, by rw [HSU.out]; omega⟩
        case measure => simp [intOf]; omega
    · have hkn : k = n := by omega
      have HNT := Lib.hid (show ¬ tooMuch vars xss from by
        rintro (h | h | h | h)
        · omega
        · omega
        · rw [HN.out] at h; exact hnp h
        · rw [HN.out, ← hkn] at h; omega)
      clear hlt hsum
      go_wp2_with fail
      clear hkn hk
      go_loop [43] (fun i => ∃ k : Nat, k ≤ n ∧ i = .int .i64 k ∧ Hid (∀ j, j < k → ∀ l ∈ xss.getD j [], isB vars l = true)) (fun i => n - (intOf i).toNat)
      case atStart => exact ⟨0, Nat.zero_le _, rfl, fun j hj => absurd hj (Nat.not_lt_zero _)⟩
      case round =>
        obtain ⟨k, hk, rfl, HQ⟩ := hrel
        by_cases hlt : k < n
        · obtain ⟨b, off, ha, hb, hc⟩ := HR.out.resolve_left (by omega)
          subst ha
          obtain ⟨v, g1, hv⟩ := hc k hlt
          clear hc
          have hkl : k < xss.length := by rw [HN.out]; exact hlt
          have hmem : xss.getD k [] ∈ xss := by simp [List.getD, hkl]
          have hle : (xss.getD k []).length < 1000000000 := HLEN.out _ hmem
          have HIK := Lib.hid (HI.out _ hmem)
          clear hmem
          generalize hys : xss.getD k [] = ys at *
          have HYS := Lib.hid hys; clear hys
          obtain ⟨av, cv, rfl, hrv1, hrv2, hrv⟩ := hv
          have HRV := Lib.hid hrv; clear hrv
          unfold maxLen at hrv2
          generalize hm : ys.length = m at *
          have HM := Lib.hid hm; clear hm
          have HKL := Lib.hid hkl; clear hkl
          go_wp2_with fail
          go_loop [50] (fun i => ∃ j : Nat, j ≤ m ∧ i = .int .i64 j ∧ Hid (∀ i, i < j → isB vars (ys.getD i 0) = true)) (fun i => m - (intOf i).toNat)
          case atStart => exact ⟨0, Nat.zero_le _, rfl, fun j hj => absurd hj (Nat.not_lt_zero _)⟩
          case round =>
            obtain ⟨j, hj, rfl, HP⟩ := hrel
            by_cases hjl : j < m
            · obtain ⟨b2, off2, ha2, hb2, hc2'⟩ := HRV.out.resolve_left (by omega)
              subst ha2
              have g2 : w.cell? ⟨b2, off2 + j, none⟩ = some (.int .i64 (ys.getD j 0)) := hc2' j hjl
              clear hc2'
              have hjy : j < ys.length := by rw [HM.out]; exact hjl
              have hmem2 : ys.getD j 0 ∈ ys := by simp [List.getD, hjy]
              obtain ⟨hl1, hl2⟩ := HIK.out _ hmem2
              have HME := Lib.hid hmem2; clear hmem2 hjy
              generalize hlj : ys.getD j 0 = l at *
              have HLJ := Lib.hid hlj; clear hlj
              have HIS := Lib.hid (fun W => is_any l vars W hl1 hl2)
              obtain ⟨r, hr⟩ : ∃ r, isB vars l = r := ⟨_, rfl⟩
              rw [show (decide (1 ≤ absI l) && decide (absI l ≤ vars)) = r from hr] at HIS
              have HRR := Lib.hid hr; clear hr
              cases r with
              | true =>
                go_wp2_with (go_at_call 65; refine (HIS.out _).mono ?_; rintro e w' ⟨rfl, rfl⟩)
                go_round
                case rel =>
                  refine ⟨j + 1, by omega, by go_num, fun i hi => ?_⟩
                  by_cases e : i = j
                  · rw [e, HLJ.out]; exact HRR.out
                  · exact HP.out i (by omega)
                case measure => simp [intOf]; omega
              | false =>
                have HFB := Lib.hid (show firstBad vars xss k from ⟨HKL.out, HQ.out, l, by rw [HYS.out]; exact HME.out, HRR.out⟩)
                go_wp2_with (go_at_call 65; refine (HIS.out _).mono ?_; rintro e w' ⟨rfl, rfl⟩)
                go_ret
                have hbb : ∀ o, Below w.heap.size w ((w.alloc (.cells #[.int .i64 vars, .slice (some ⟨b, off, none⟩) n cap] 27)).alloc o) := fun o => (HB.out _).alloc (by simp) _
                refine ⟨_, 104, true, k, rfl, .inr (.inl ⟨HNT.out, k, HFB.out, rfl, rfl, rfl⟩), ?_, fun h => by omega, fun _ => ⟨_, _, rfl⟩, hbb _⟩
                refine errAs_at (HS.out.keep (hbb _)) 3 (by omega) (w.heap.size + 1) k ?_ ?_
                · rw [World.cell?_alloc_at _ _ _ _ (by simp)]; rfl
                · rw [World.cell?_alloc_at _ _ _ _ (by simp)]; rfl
            · have hjm : j = m := by omega
              have HALL := Lib.hid (show ∀ j', j' < k + 1 → ∀ l ∈ xss.getD j' [], isB vars l = true from by
                intro j' hj' l hl
                by_cases e : j' = k
                · rw [e, HYS.out] at hl
                  obtain ⟨i, hi, rfl⟩ := List.getElem_of_mem hl
                  have := HP.out i (by rw [HM.out] at hi; omega)
                  simpa [List.getD, hi] using this
                · exact HQ.out j' (by omega) l hl)
              clear hjl
              go_wp2_with fail
              go_round
              case rel => exact ⟨k + 1, by omega, by go_num, HALL.out⟩
              case measure => simp [intOf]; omega
        · have hkn : k = n := by omega
          have HALL := Lib.hid (show allIs vars xss from by
            intro xs hxs l hl
            obtain ⟨i, hi, rfl⟩ := List.getElem_of_mem hxs
            exact HQ.out i (by rw [HN.out] at hi; omega) l (by simpa [List.getD, hi] using hl))
          clear hlt
          go_wp2_with fail
          go_ret
          exact ⟨_, 0, false, 0, rfl, .inr (.inr ⟨HNT.out, HALL.out, rfl, rfl, rfl⟩), errAs_nil _, fun _ => rfl, fun h => absurd rfl h, HB.out _⟩
end Go.Proofs.YtfoohdknjacenaaGreatDoor

namespace Go.Proofs.YtfoohdknjacenaaGreatDoor
open Go.RowKit

/-- The fault that Check tells of a formula. -/
def CheckFF (vars : Int) (bs : List Blk) (xss : List (List Int)) (c : Int) (p : Bool) (k : Int) : Prop :=
  (c ≠ 0 ∧ CheckF vars xss c p k) ∨ (CheckF vars xss 0 false 0 ∧ ((blksBad vars 0 [] bs = none ∧ c = 0 ∧ p = false ∧ k = 0) ∨ ∃ i : Nat, blksBad vars 0 [] bs = some i ∧ c = 104 ∧ p = true ∧ k = i))
theorem checkF_same {vars : Int} {xss : List (List Int)} {c c' : Int} {p p' : Bool} {k k' : Int} (h : CheckF vars xss c p k) (h' : CheckF vars xss c' p' k') : c' = c ∧ p' = p ∧ k' = k := by
  have hAB : ∀ {i}, firstBad vars xss i → ¬ allIs vars xss := fun {i} hb ha => by
    obtain ⟨h1, _, l, h2, h3⟩ := hb
    have := ha (xss.getD i []) (by simp [List.getD, h1]) l h2
    rw [h3] at this
    cases this
  rcases h with ⟨h1, rfl, rfl, rfl⟩ | ⟨h1, i, h2, rfl, rfl, rfl⟩ | ⟨h1, h2, rfl, rfl, rfl⟩ <;> rcases h' with ⟨g1, rfl, rfl, rfl⟩ | ⟨g1, j, g2, rfl, rfl, rfl⟩ | ⟨g1, g2, rfl, rfl, rfl⟩
  · exact ⟨rfl, rfl, rfl⟩
  · exact absurd h1 g1
  · exact absurd h1 g1
  · exact absurd g1 h1
  · have : j = i := by
      rcases Nat.lt_trichotomy j i with e | e | e
      · obtain ⟨_, _, l, h5, h6⟩ := g2
        have := h2.2.1 j e l h5
        rw [h6] at this; cases this
      · exact e
      · obtain ⟨_, _, l, h5, h6⟩ := h2
        have := g2.2.1 i e l h5
        rw [h6] at this; cases this
    subst this
    exact ⟨rfl, rfl, rfl⟩
  · exact absurd g2 (hAB h2)
  · exact absurd g1 h1
  · exact absurd h2 (hAB g2)
  · exact ⟨rfl, rfl, rfl⟩
theorem first_bad (vars : Int) (xss : List (List Int)) : ∀ k, k ≤ xss.length → (∀ j, j < k → ∀ l ∈ xss.getD j [], isB vars l = true) ∨ ∃ i, firstBad vars xss i
  | 0, _ => .inl fun j hj => absurd hj (Nat.not_lt_zero _)
  | k + 1, h => by
    rcases first_bad vars xss k (by omega) with h1 | h1
    · by_cases h2 : ∀ l ∈ xss.getD k [], isB vars l = true
      · left
        intro j hj
        by_cases e : j = k
        · subst e; exact h2
        · exact h1 j (by omega)
      · right
        simp only [Classical.not_forall, Bool.not_eq_true] at h2
        obtain ⟨l, h3, h4⟩ := h2
        exact ⟨k, by omega, h1, l, h3, h4⟩
    · exact .inr h1
theorem checkF_some (vars : Int) (xss : List (List Int)) : (∃ c p k, CheckF vars xss c p k ∧ c ≠ 0) ∨ CheckF vars xss 0 false 0 := by
  by_cases ht : tooMuch vars xss
  · exact .inl ⟨102, false, 0, .inl ⟨ht, rfl, rfl, rfl⟩, by omega⟩
  · rcases first_bad vars xss xss.length (Nat.le_refl _) with h | ⟨i, h⟩
    · refine .inr (.inr (.inr ⟨ht, fun xs hxs l hl => ?_, rfl, rfl, rfl⟩))
      obtain ⟨i, hi, rfl⟩ := List.getElem_of_mem hxs
      exact h i hi l (by simpa [List.getD, hi] using hl)
    · exact .inl ⟨104, true, i, .inr (.inl ⟨ht, i, h, rfl, rfl, rfl⟩), by omega⟩
theorem checkFF_same {vars : Int} {bs : List Blk} {xss : List (List Int)} {c c' : Int} {p p' : Bool} {k k' : Int} (h : CheckFF vars bs xss c p k) (h' : CheckFF vars bs xss c' p' k') : c' = c ∧ p' = p ∧ k' = k := by
  rcases h with ⟨h0, h1⟩ | ⟨h1, h2⟩ <;> rcases h' with ⟨g0, g1⟩ | ⟨g1, g2⟩
  · exact checkF_same h1 g1
  · exact absurd (checkF_same h1 g1).1.symm h0
  · exact absurd (checkF_same h1 g1).1 g0
  · rcases h2 with ⟨e1, rfl, rfl, rfl⟩ | ⟨i, e1, rfl, rfl, rfl⟩ <;> rcases g2 with ⟨e2, rfl, rfl, rfl⟩ | ⟨j, e2, rfl, rfl, rfl⟩
    · exact ⟨rfl, rfl, rfl⟩
    · rw [e1] at e2; cases e2
    · rw [e1] at e2; cases e2
    · rw [e1] at e2
      obtain rfl := Option.some.inj e2
      exact ⟨rfl, rfl, rfl⟩
/-- In a block: what is left of it, and the blocks behind. -/
def blksIn (vars : Int) (i : Nat) (met vs : List Int) (r : List Blk) : Option Nat := match varsOk vars met vs with
  | none => some i
  | some m => blksBad vars (i + 1) m r
theorem bb_end (vars : Int) (bs : List Blk) (i : Nat) (met : List Int) (h : bs.length ≤ i) : blksBad vars i met (bs.drop i) = none := by
  rw [List.drop_eq_nil_of_le h, blksBad]
theorem bb_in (vars : Int) (bs : List Blk) (i : Nat) (met : List Int) (h : i < bs.length) : blksBad vars i met (bs.drop i) = blksIn vars i met (bs.getD i blk0).2 (bs.drop (i + 1)) := by
  rw [List.drop_eq_getElem_cons h, blksBad, show bs.getD i blk0 = bs[i] by simp [List.getD, h]]
  rfl
theorem bn_end (vars : Int) (i j : Nat) (met vs : List Int) (r : List Blk) (h : vs.length ≤ j) : blksIn vars i met (vs.drop j) r = blksBad vars (i + 1) met r := by
  rw [List.drop_eq_nil_of_le h]; rfl
theorem bn_ok (vars : Int) (i j : Nat) (met vs : List Int) (r : List Blk) (h : j < vs.length) (hk : okV vars met (vs.getD j 0) = true) : blksIn vars i met (vs.drop j) r = blksIn vars i (met ++ [vs.getD j 0]) (vs.drop (j + 1)) r := by
  rw [List.drop_eq_getElem_cons h]
  have e : vs.getD j 0 = vs[j] := by simp [List.getD, h]
  rw [e] at hk ⊢
  unfold blksIn
  rw [varsOk, if_pos hk]
theorem bn_bad (vars : Int) (i j : Nat) (met vs : List Int) (r : List Blk) (h : j < vs.length) (hk : okV vars met (vs.getD j 0) = false) : blksIn vars i met (vs.drop j) r = some i := by
  rw [List.drop_eq_getElem_cons h]
  have e : vs.getD j 0 = vs[j] := by simp [List.getD, h]
  rw [e] at hk
  unfold blksIn
  rw [varsOk, if_neg (by rw [hk]; simp)]

def ChkPost (w : World) (vars : Int) (bs : List Blk) (xss : List (List Int)) (e : Ending) (w' : World) : Prop :=
  ∃ ev c p k, e = .returned ev ∧ CheckFF vars bs xss c p k ∧ ErrAs w' ev c p k ∧ (c = 0 → ev = .nilIface) ∧ Below w.heap.size w w'

set_option maxHeartbeats 4000000 in
theorem checkFm_any (A : Nat → Addr) (vars : Int) (q : Option Addr) (d : Nat) (bs : List Blk) (a : Option Addr) (cap : Nat) (xss : List (List Int)) (w : World) (hS : Sents8 w A) (hv1 : -9223372036854775808 ≤ vars) (hv2 : vars ≤ 9223372036854775807) (hq : BRowsAt w q d bs) (hr : RowsAt w a cap xss)
    (hint : ∀ xs ∈ xss, ∀ l ∈ xs, -9223372036854775807 ≤ l ∧ l ≤ 9223372036854775807) (hlen : ∀ xs ∈ xss, xs.length < 1000000000) :
    Calls Tryz.prog 12 #[.agg #[.slice q bs.length d, .int .i64 vars, .slice a xss.length cap]] w (ChkPost w vars bs xss) := by
  have HCK := Lib.hid (fun W (hW : Below w.heap.size w W) => check_any A vars a cap xss W (hS.keep hW).toSents hv1 hv2 (hr.keep hW) hint hlen)
  have HT := Lib.hid (fun (k : Int) W => qat_any A k 3 W)
  have c3 := hS.c3
  have z3 : 1 < w.heap.size := World.block_lt_of_cell? w _ c3
  have HC3 : Hid (∀ W, Below w.heap.size w W → W.cell? ⟨1, 0, none⟩ = some (.iface 179 (.pointer (some (A 3))))) := fun W hW => (hW.cell (p := ⟨1, 0, none⟩) z3).trans c3
  have HSS := Lib.hid (fun W (hW : Below w.heap.size w W) => (hS.keep hW).toSents)
  have HBX : Hid (∀ o, Below w.heap.size w (w.alloc o)) := fun o => (Below.refl _ w).alloc (Nat.le_refl _) _
  obtain ⟨hq1, hq2, hq3⟩ := hq
  unfold maxLen at hq2
  have HQ3 := Lib.hid hq3; clear hq3
  have hvb : CheckF vars xss 0 false 0 → 0 ≤ vars ∧ vars ≤ 4000 := fun h => by
    rcases h with ⟨_, h, _⟩ | ⟨_, _, _, h, _⟩ | ⟨h, _⟩
    · omega
    · omega
    · unfold tooMuch at h; omega
  have HVB := Lib.hid hvb; clear hvb
  clear hS c3 hr hint hlen
  unfold CheckPost at HCK
  have HNIL : Hid (∀ W, Below w.heap.size w W → CheckF vars xss 0 false 0 → blksBad vars 0 [] bs = none → ChkPost w vars bs xss (.returned .nilIface) W) := fun W hW h0 h1 => ⟨_, 0, false, 0, rfl, .inr ⟨h0, .inl ⟨h1, rfl, rfl, rfl⟩⟩, errAs_nil _, fun _ => rfl, hW⟩
  have HBAD : Hid (∀ W ev (i : Nat) B, Below w.heap.size w W → CheckF vars xss 0 false 0 → blksBad vars 0 [] bs = some i → AtB A B W ev i 3 → ChkPost w vars bs xss (.returned ev) W) := fun W ev i B hW h0 h1 hat => by
    obtain ⟨b, _, rfl, g0, g1⟩ := hat
    exact ⟨_, 104, true, i, rfl, .inr ⟨h0, .inr ⟨i, h1, rfl, rfl, rfl⟩⟩, errAs_at (HSS.out _ hW) 3 (by omega) b _ g0 g1, fun h => by omega, hW⟩
  have HERR : Hid (∀ W ev c p k, Below w.heap.size w W → CheckF vars xss c p k → c ≠ 0 → ErrAs W ev c p k → ChkPost w vars bs xss (.returned ev) W) := fun W ev c p k hW h0 h1 h2 => ⟨_, c, p, k, rfl, .inl ⟨h1, h0⟩, h2, fun h => absurd h h1, hW⟩
  have HBB := Lib.hid (fun i met (h : i < bs.length) => bb_in vars bs i met h)
  have HBE := Lib.hid (fun met => bb_end vars bs bs.length met (Nat.le_refl _))
  have HTOT : Hid ((∀ c p k, CheckF vars xss c p k → c = 0) → CheckF vars xss 0 false 0) := fun h => by
    rcases checkF_some vars xss with ⟨c, p, k, h1, h2⟩ | h1
    · exact absurd (h c p k h1) h2
    · exact h1
  generalize hP : ChkPost w vars bs xss = P at *
  clear hP
  generalize hN : bs.length = n at *
  have HN := Lib.hid hN; clear hN
  generalize xss.length = m at *
  generalize A 3 = a3 at *
  by_cases hne : ∃ c p k, CheckF vars xss c p k ∧ c ≠ 0
  · have HNE := Lib.hid hne; clear hne
    go_enter Tryz.func12, Tryz.ntmps12
    go_wp2_with (go_at_call 39; refine (HCK.out _ (HBX.out _)).mono ?_; rintro e w1 ⟨ev, c, p, k, rfl, hcf, he, hz, hi, hb1⟩; have hc0 : c ≠ 0 := (by obtain ⟨c', p', k', h1, h2⟩ := HNE.out; rw [(checkF_same h1 hcf).1]; exact h2); obtain ⟨t, u, rfl⟩ := hi hc0; have hbw1 := (HBX.out _).trans (hb1.mono (by simp)))
    (try go_ret)
    exact HERR.out _ _ _ _ _ hbw1 hcf hc0 he
  · have HZ : Hid (∀ c p k, CheckF vars xss c p k → c = 0) := fun c p k h => by
      by_cases h0 : c = 0
      · exact h0
      · exact absurd ⟨c, p, k, h, h0⟩ hne
    clear hne
    obtain hcf0 := HTOT.out HZ.out
    · obtain ⟨hv3, hv4⟩ := HVB.out hcf0
      obtain ⟨vn, rfl⟩ : ∃ vn : Nat, vars = vn := ⟨vars.toNat, by omega⟩
      have HCF := Lib.hid hcf0; clear hcf0
      go_enter Tryz.func12, Tryz.ntmps12
      go_wp2_with (first
        | (go_at_call 39; refine (HCK.out _ (HBX.out _)).mono ?_; rintro e w1 ⟨ev, c, p, k, rfl, hcf, he, hz, hi, hb1⟩; obtain rfl : ev = .nilIface := hz (HZ.out _ _ _ hcf); have hbw1 := (HBX.out _).trans (hb1.mono (by simp)); obtain ⟨g0, g1, g2⟩ := cells3 w w1 _ _ _ _ hb1)
        | (at_make; refine wpList_makeG Value.bool false _ _ 1 Tryz.underlying84 infoBl rfl (by decide) rfl _ _ rfl _ (vn + 1) rfl rfl (by omega) ?_; intro w2 hc2 hb2 hlt2; have g0' := (hb2.cell (p := ⟨w.heap.size, 0, none⟩) (World.block_lt_of_cell? w1 _ g0)).trans g0))
      have hbw2 := hbw1.trans (hb2.mono hbw1.size)
      have hqw : w.heap.size ≤ w1.heap.size := hbw1.size
      generalize w1.heap.size = q0 at *
      clear g0 g1 g2 g0' he hz hi hcf hb1 hbw1 hb2
      go_loopw [5, 6, 8, 23] (fun _ _ _ i wr => ∃ (k : Nat) (met : List Int) (bits : List Bool), k ≤ n ∧ i = .int .i64 k ∧ CelG Value.bool false wr q0 bits ∧ MkL (vn + 1) met bits ∧ Below w.heap.size w wr ∧ Hid (blksBad (vn : Int) k met (bs.drop k) = blksBad (vn : Int) 0 [] bs)) (fun _ _ _ i _ => n - (intOf i).toNat)
      case atStart => exact ⟨0, [], _, Nat.zero_le _, rfl, hc2, MkL.start _, hbw2, rfl⟩
      case round =>
        obtain ⟨k, met, bits, hk, rfl, hcl, hml, hbr, HQ⟩ := hrel
        clear hc2 hlt2 hbw2
        have hqs := hcl.sq
        by_cases hlt : k < n
        · obtain ⟨b, off, ha, hbl, hc⟩ := HQ3.out.resolve_left (by omega)
          subst ha
          obtain ⟨f0, v, f1, hvr⟩ := hc k hlt
          clear hc
          have f0' := (hbr.cell (p := ⟨b, off + k * 2, none⟩) hbl).trans f0
          have f1' := (hbr.cell (p := ⟨b, off + k * 2 + 1, none⟩) hbl).trans f1
          have HQ2 := Lib.hid ((HBB.out k met hlt).symm.trans HQ.out)
          clear f0 f1 HQ
          obtain ⟨av, cv, rfl, hv5, hv6, hrv⟩ := hvr
          unfold maxLen at hv6
          generalize (bs.getD k blk0).1 = ex at *
          generalize (bs.getD k blk0).2 = ys at *
          have HRV := Lib.hid hrv; clear hrv
          generalize hml2 : ys.length = ml at *
          have HML := Lib.hid hml2; clear hml2
          have hbx : Below wr.heap.size wr (wr.alloc (.cells #[.bool ex, .slice av ml cv] 51)) := (Below.refl _ _).alloc (Nat.le_refl _) _
          have HX := Lib.hid (And.intro (hcl.keep hbx) (hbr.trans (hbx.mono hbr.size))); clear hbx hcl hbr
          go_wp2_with fail
          obtain ⟨hcx, hbx⟩ := HX.out
          go_loopw [8, 31] (fun _ i wr2 => ∃ (j : Nat) (met2 : List Int) (bits2 : List Bool), j ≤ ml ∧ i = .int .i64 j ∧ CelG Value.bool false wr2 q0 bits2 ∧ MkL (vn + 1) met2 bits2 ∧ Below w.heap.size w wr2 ∧ Hid (blksIn (vn : Int) k met2 (ys.drop j) (bs.drop (k + 1)) = blksBad (vn : Int) 0 [] bs)) (fun _ i _ => ml - (intOf i).toNat)
          case atStart => exact ⟨0, met, bits, Nat.zero_le _, rfl, hcx, hml, hbx, HQ2.out⟩
          case round =>
            obtain ⟨j, met2, bits2, hj, rfl, hcl2, hml2, hbr2, HQ4⟩ := hrel
            clear hcx hbx
            by_cases hjl : j < ml
            · obtain ⟨b2, off2, ha2, hb2', hc2'⟩ := HRV.out.resolve_left (by have := HML.out; omega)
              subst ha2
              have hjy : j < ys.length := by rw [HML.out]; exact hjl
              have f2 := (hbr2.cell (p := ⟨b2, off2 + j, none⟩) hb2').trans (hc2' j (by first | exact hjl | exact hjy))
              have HOKN := Lib.hid (fun h => bn_ok (vn : Int) k j met2 ys (bs.drop (k + 1)) hjy h)
              have HBDN := Lib.hid (fun h => bn_bad (vn : Int) k j met2 ys (bs.drop (k + 1)) hjy h)
              have HADD := Lib.hid (fun W (h : CelG Value.bool false W q0 bits2) => add_any q0 (vn + 1) met2 bits2 (ys.getD j 0) W h hml2)
              unfold AddPost at HADD
              rw [show (((vn + 1 : Nat) : Int) - 1) = (vn : Int) by omega] at HADD
              clear hc2' hjy
              generalize ys.getD j 0 = l at *
              cases hok : okV (vn : Int) met2 l with
              | true =>
                have HQ5 := Lib.hid ((HOKN.out hok).symm.trans HQ4.out)
                rw [hok] at HADD
                clear HOKN HBDN HQ4 hok
                go_wp2_with (go_at_call 40; refine (HADD.out _ hcl2).mono ?_; rintro e3 w3 ⟨rfl, ⟨bits3, hc3, hm3⟩, ho3⟩)
                go_roundw
                case rel => exact ⟨j + 1, met2 ++ [l], bits3, by omega, by go_num, hc3, hm3, ho3.below hbr2 hbr2.size hqw, HQ5.out⟩
                case measure => simp [intOf]; omega
              | false =>
                have HE := Lib.hid (HQ4.out.symm.trans (HBDN.out hok))
                rw [hok] at HADD
                clear HOKN HBDN HQ4 hok
                go_wp2_with (first
                  | (go_at_call 40; refine (HADD.out _ hcl2).mono ?_; rintro e3 w3 ⟨rfl, ⟨bits3, hc3, hm3⟩, ho3⟩; have hbw3 := ho3.below hbr2 hbr2.size hqw; have gg := HC3.out _ hbw3)
                  | (go_at_call 22; refine (HT.out _ _).mono ?_; rintro e4 w4 ⟨⟨ev4, rfl, hat⟩, hb4⟩))
                (try go_ret)
                exact HBAD.out _ _ k _ (hbw3.trans (hb4.mono hbw3.size)) HCF.out HE.out hat
            · have hjm : j = ml := by omega
              have HQ5 := Lib.hid ((bn_end (vn : Int) k j met2 ys (bs.drop (k + 1)) (by rw [HML.out]; omega)).symm.trans HQ4.out)
              subst hjm
              clear HQ4
              go_wp2_with fail
              go_roundw
              case rel => exact ⟨k + 1, met2, bits2, by omega, by go_num, hcl2, hml2, hbr2, HQ5.out⟩
              case measure => simp [intOf]; omega
        · have hkn : k = n := by omega
          subst hkn
          have HE := Lib.hid (HQ.out.symm.trans (HBE.out met))
          clear HQ
          go_wp2_with fail
          (try go_ret)
          exact HNIL.out _ hbr HCF.out HE.out
end Go.Proofs.YtfoohdknjacenaaGreatDoor

namespace Go.Proofs.YtfoohdknjacenaaGreatDoor
open Go.RowKit

/-- A fault as the document tells it. -/
def fltV (ws : List Wd) (e : Int) (f : Flt) : Value := faultV f.code f.placed (f.pos ws e)

set_option maxHeartbeats 1000000 in
theorem refAt_any (v : Value) (ws : List Wd) (k : Nat) (e : Int) (w : World) (hv : WRowO w v ws) :
    Calls Tryz.prog 60 #[v, .int .i64 k, .int .i64 e] w fun r w' => r = .returned (.int .i64 (posL ws k e)) ∧ w = w' := by
  obtain ⟨a, cap, rfl, hcl, hcm, hwo⟩ := hv
  unfold maxLen at hcm
  by_cases hk : k < ws.length
  · have hp : posL ws k e = (ws.getD k wd0).2.1 := by unfold posL; rw [if_pos hk]
    obtain ⟨g, off, rfl, hw⟩ := hwo.resolve_left (by omega)
    have hpos := hw.pos k hk
    rw [hp]
    clear hp hw hwo
    generalize (ws.getD k wd0).2.1 = pos at *
    generalize ws.length = n at *
    have hkc : (k : Int) < n := by omega
    go_enter Tryz.func60, Tryz.ntmps60
    go_wp2_with fail
    go_ret
    exact ⟨rfl, rfl⟩
  · have hp : posL ws k e = e := by unfold posL; rw [if_neg hk]
    rw [hp]
    clear hp hwo
    generalize ws.length = n at *
    have hkc : decide ((k : Int) < n) = false := by simp; omega
    go_enter Tryz.func60, Tryz.ntmps60
    go_wp2_with fail
    go_ret
    exact ⟨rfl, rfl⟩

set_option maxHeartbeats 1000000 in
theorem refText_any (v : Value) (ws : List Wd) (k : Nat) (e : Int) (w : World) (hv : WRowO w v ws) :
    Calls Tryz.prog 29 #[v, .int .i64 k, .int .i64 e] w fun r w' => r = .returned (fltV ws e (.text k)) ∧ Below w.heap.size w w' := by
  have HA := Lib.hid (fun W (hW : Below w.heap.size w W) => refAt_any v ws k e W (hv.keep hW))
  have HP := Lib.hid (fun p W => placed_any 101 p W (by omega))
  have HB := Lib.hid (fun o => show Below w.heap.size w (w.alloc o) from (Below.refl _ w).alloc (Nat.le_refl _) _)
  show Calls _ _ _ _ fun r w' => r = .returned (faultV 101 true (posL ws k e)) ∧ _
  generalize posL ws k e = p at *
  obtain ⟨a, cap, rfl, _, _, _⟩ := hv
  unfold faultV at *
  go_enter Tryz.func29, Tryz.ntmps29
  go_wp2_with (first
    | (go_at_call 60; refine (HA.out _ (HB.out _)).mono ?_; rintro e w' ⟨rfl, rfl⟩)
    | (go_at_call 21; refine (HP.out _ _).mono ?_; rintro e w2 ⟨rfl, hb⟩; obtain ⟨hc, hf⟩ := bcell hb))
  have hbw := (HB.out _).trans (hb.mono (by simp))
  exact bodyPost_ret (v := .agg #[.int .i64 101, .bool true, .int .i64 p]) (by simp [results, Tryz.results29, go_sem, hc]) rfl ⟨rfl, ((hbw.setCell (Nat.le_refl _) _).setCell (Nat.le_refl _) _).setCell (Nat.le_refl _) _⟩

theorem head_at {xs : List Int} (h : xs ≠ []) : decide (xs.head? = some 45) = (xs.getD 0 0 == 45) := by
  cases xs with
  | nil => exact absurd rfl h
  | cons x t => rw [Bool.eq_iff_iff]; simp

set_option maxHeartbeats 2000000 in
theorem refPlain_any (v : Value) (ws : List Wd) (k : Nat) (w : World) (hv : WRowO w v ws) (hok : WOk ws) :
    Calls Tryz.prog 59 #[v, .int .i64 k] w fun r w' => r = .returned (.tuple #[.int .i64 ((cntL ws k).getD 0), .bool (cntL ws k).isSome]) ∧ Below w.heap.size w w' := by
  obtain ⟨a, cap, rfl, hcl, hcm, hwo⟩ := hv
  unfold maxLen at hcm
  by_cases hk : k < ws.length
  · obtain ⟨g, off, rfl, hw⟩ := hwo.resolve_left (by omega)
    have hf : w.cell? ⟨g, off + k * 3 + 2, none⟩ = some (.bool (fst ws k)) := hw.fst k hk
    have ht : w.cell? ⟨g, off + k * 3, none⟩ = some (.string (strOfNums (txt ws k))) := hw.text k hk
    obtain ⟨x1, x2, x3⟩ := hok.at hk
    have HN := Lib.hid (fun W => refNum_any (txt ws k) W x2 x3)
    unfold NumPost at HN
    have hyy := fun h => str_at x2 0 h
    have hss : (strOfNums (txt ws k)).size = (txt ws k).length := strOfNums_size _
    have hpos : 0 < (txt ws k).length := List.length_pos_iff.2 x1
    have hc : cntL ws k = if fst ws k = false ∧ (txt ws k).head? ≠ some 45 then numL (txt ws k) else none := by
      unfold cntL
      by_cases h : fst ws k = false ∧ (txt ws k).head? ≠ some 45
      · rw [if_pos ⟨hk, h⟩, if_pos h]
      · rw [if_neg (fun h' => h h'.2), if_neg h]
    rw [hc]
    have hha := head_at x1
    clear hw hwo hok x1 x2 x3 hc
    generalize fst ws k = f at *
    generalize txt ws k = xs at *
    generalize ws.length = n at *
    generalize strOfNums xs = s at *
    have hkc : decide ((n : Int) ≤ (k : Int)) = false := by simp; omega
    have hkd : (k : Int) < n := by omega
    cases f with
    | true =>
      rw [if_neg (by simp)]
      clear HN hyy
      go_enter Tryz.func59, Tryz.ntmps59
      go_wp2_with fail
      (try go_ret2)
      exact ⟨rfl, Below.refl _ _⟩
    | false =>
      generalize hy : xs.getD 0 0 = y at *
      generalize xs.length = m at *
      have hs0 : 0 < s.size := by omega
      cases hsg : (y == 45) with
      | true =>
        rw [hsg] at hha
        rw [if_neg (by have : xs.head? = some 45 := by simpa using hha
                       simp [this])]
        have hyd : y = 45 := by simpa using hsg
        subst hyd
        clear HN hha hy hsg
        go_enter Tryz.func59, Tryz.ntmps59
        go_wp2_with fail
        (try go_ret2)
        exact ⟨rfl, Below.refl _ _⟩
      | false =>
        rw [hsg] at hha
        rw [if_pos ⟨rfl, by simpa using hha⟩]
        clear hha hy
        generalize (numL xs).getD 0 = nn at *
        generalize (numL xs).isSome = ns at *
        go_enter Tryz.func59, Tryz.ntmps59
        go_wp2_with (go_at_call 30; refine (HN.out _).mono ?_; rintro e w2 ⟨rfl, hb2⟩)
        (try go_ret2)
        exact ⟨rfl, hb2⟩
  · have hc : cntL ws k = none := by unfold cntL; rw [if_neg (fun h => hk h.1)]
    rw [hc]
    clear hc hok hwo
    generalize ws.length = n at *
    have hkc : decide ((n : Int) ≤ (k : Int)) = true := by simp; omega
    go_enter Tryz.func59, Tryz.ntmps59
    go_wp2_with fail
    (try go_ret2)
    exact ⟨rfl, Below.refl _ _⟩
end Go.Proofs.YtfoohdknjacenaaGreatDoor

namespace Go.Proofs.YtfoohdknjacenaaGreatDoor
open Go.RowKit

def RHPost (w : World) (ws : List Wd) (e : Int) (R : Int × Int × Flt) (r : Ending) (w' : World) : Prop := r = .returned (.tuple #[.int .i64 R.1, .int .i64 R.2.1, fltV ws e R.2.2]) ∧ Below w.heap.size w w'
theorem headL_n0 {ws : List Wd} (h : ¬ (0 < ws.length ∧ fst ws 0 = true ∧ txt ws 0 = [112])) : headL ws = (0, 0, .text 0) := by unfold headL; rw [if_pos h]
theorem headL_n1 {ws : List Wd} (h0 : 0 < ws.length ∧ fst ws 0 = true ∧ txt ws 0 = [112]) (h : ¬ (1 < ws.length ∧ fst ws 1 = false ∧ txt ws 1 = [99, 110, 102])) : headL ws = (0, 0, .text 1) := by unfold headL; rw [if_neg (fun h => h h0), if_pos h]
theorem headL_n2 {ws : List Wd} (h0 : 0 < ws.length ∧ fst ws 0 = true ∧ txt ws 0 = [112]) (h1 : 1 < ws.length ∧ fst ws 1 = false ∧ txt ws 1 = [99, 110, 102]) : headL ws = match cntL ws 2 with
    | none => (0, 0, .text 2)
    | some v => if 4000 < v then (0, 0, .lim 2) else
      match cntL ws 3 with
      | none => (0, 0, .text 3)
      | some m => if 20000 < m then (0, 0, .lim 3) else (v, m, .ok) := by unfold headL; rw [if_neg (fun h => h h0), if_neg (fun h => h h1)]; rfl
theorem cnt_in {ws : List Wd} {k : Nat} {n : Int} (h : cntL ws k = some n) : k < ws.length := by
  unfold cntL at h
  split at h
  · rename_i h'; exact h'.1
  · cases h

theorem cnt_bd {ws : List Wd} {k : Nat} {n : Int} (h : cntL ws k = some n) : -1000000000 < n ∧ n < 1000000000 := by
  unfold cntL at h
  split at h
  · exact numL_bd h
  · cases h

set_option maxRecDepth 8000 in
set_option maxHeartbeats 1000000 in
theorem refHead_any (v : Value) (ws : List Wd) (e : Int) (w : World) (hv : WRow w v ws) (hok : WOk ws) (hn : ws.length ≤ 4000) :
    Calls Tryz.prog 28 #[v, .int .i64 e] w (RHPost w ws e (headL ws)) := by
  have HBW : Hid (∀ o, Below w.heap.size w (w.alloc o)) := fun o => (Below.refl _ w).alloc (Nat.le_refl _) _
  have HX0 : Hid (∀ W, Below w.heap.size w W → Calls Tryz.prog 29 #[v, .int .i64 0, .int .i64 e] W fun r w' => r = .returned (fltV ws e (.text 0)) ∧ Below W.heap.size W w') := fun W hW => refText_any v ws 0 e W (hv.o.keep hW)
  have HX1 : Hid (∀ W, Below w.heap.size w W → Calls Tryz.prog 29 #[v, .int .i64 1, .int .i64 e] W fun r w' => r = .returned (fltV ws e (.text 1)) ∧ Below W.heap.size W w') := fun W hW => refText_any v ws 1 e W (hv.o.keep hW)
  have HX2 : Hid (∀ W, Below w.heap.size w W → Calls Tryz.prog 29 #[v, .int .i64 2, .int .i64 e] W fun r w' => r = .returned (fltV ws e (.text 2)) ∧ Below W.heap.size W w') := fun W hW => refText_any v ws 2 e W (hv.o.keep hW)
  have HX3 : Hid (∀ W, Below w.heap.size w W → Calls Tryz.prog 29 #[v, .int .i64 3, .int .i64 e] W fun r w' => r = .returned (fltV ws e (.text 3)) ∧ Below W.heap.size W w') := fun W hW => refText_any v ws 3 e W (hv.o.keep hW)
  have HP2 : Hid (∀ W, Below w.heap.size w W → Calls Tryz.prog 59 #[v, .int .i64 2] W fun r w' => r = .returned (.tuple #[.int .i64 ((cntL ws 2).getD 0), .bool (cntL ws 2).isSome]) ∧ Below W.heap.size W w') := fun W hW => refPlain_any v ws 2 W (hv.o.keep hW) hok
  have HP3 : Hid (∀ W, Below w.heap.size w W → Calls Tryz.prog 59 #[v, .int .i64 3] W fun r w' => r = .returned (.tuple #[.int .i64 ((cntL ws 3).getD 0), .bool (cntL ws 3).isSome]) ∧ Below W.heap.size W w') := fun W hW => refPlain_any v ws 3 W (hv.o.keep hW) hok
  unfold fltV at *
  unfold faultV at *
  have HPL := Lib.hid (fun (p : Int) W => placed_any 102 p W (by omega))
  have HNO := Lib.hid (fun W => none_any W)
  unfold faultV at HPL HNO
  by_cases hl0 : ws.length = 0
  case pos =>
    rw [headL_n0 (fun h => by omega)]
    clear HX1 HX2 HX3 HP2 HP3 HPL HNO
    obtain ⟨a, cap, rfl, hcl, hcm, hwo⟩ := hv
    clear hwo hok
    show Calls _ _ _ _ (fun r w' => r = .returned (.tuple #[.int .i64 0, .int .i64 0, .agg #[.int .i64 101, .bool true, .int .i64 (posL ws 0 e)]]) ∧ Below w.heap.size w w')
    simp only [Flt.code, Flt.placed, Flt.pos] at HX0
    generalize posL ws 0 e = ps at *
    generalize ws.length = n at *
    subst hl0
    go_enter Tryz.func28, Tryz.ntmps28
    go_wp2_with (go_at_call 29; refine (HX0.out _ (HBW.out _)).mono ?_; rintro e2 w9 ⟨rfl, hb9⟩; obtain ⟨hc, hf⟩ := bcell hb9)
    have hbf := (HBW.out _).trans (hb9.mono (by simp))
    exact bodyPost_ret (v := .tuple #[.int .i64 0, .int .i64 0, .agg #[.int .i64 101, .bool true, .int .i64 ps]]) (by simp [results, Tryz.results28, go_sem, hc]) rfl ⟨rfl, ((hbf.setCell (Nat.le_refl _) _).setCell (Nat.le_refl _) _).setCell (Nat.le_refl _) _⟩
  case neg =>
  have hnb : ((ws.length : Int) == 0) = false := beq_eq_false_iff_ne.2 (by omega)
  obtain ⟨g, cap, rfl, hcl, hcm, hw⟩ := wrow_some hv hl0
  have hg := hw.sq
  have HG : Hid (∀ o v, w.cell? ⟨g, o, none⟩ = some v → ∀ W, Below w.heap.size w W → W.cell? ⟨g, o, none⟩ = some v) := fun o v h W hW => (hW.cell (p := ⟨g, o, none⟩) hg).trans h
  have t0 : w.cell? ⟨g, 0, none⟩ = some (.string (strOfNums (txt ws 0))) := by have := hw.text 0 (by omega); rwa [Nat.zero_mul] at this
  have f0 : w.cell? ⟨g, 2, none⟩ = some (.bool (fst ws 0)) := by have := hw.fst 0 (by omega); rwa [Nat.zero_mul] at this
  have hkp : (0 : Int) < ws.length := by omega
  by_cases ht0 : txt ws 0 = [112]
  case neg =>
    rw [headL_n0 (fun h => ht0 h.2.2)]
    have hne := str_ne (ys := [112]) (hok.at (show 0 < ws.length by omega)).2.1 (by intro x hx; simp at hx; omega) ht0
    rw [show (strOfNums [112]).toList = [112] from by rw [str_toList]; rfl] at hne
    clear HX1 HX2 HX3 HP2 HP3 HPL HNO hok hv hw f0 ht0
    generalize strOfNums (txt ws 0) = s at *
    show Calls _ _ _ _ (fun r w' => r = .returned (.tuple #[.int .i64 0, .int .i64 0, .agg #[.int .i64 101, .bool true, .int .i64 (posL ws 0 e)]]) ∧ Below w.heap.size w w')
    simp only [Flt.code, Flt.placed, Flt.pos] at HX0
    generalize posL ws 0 e = ps at *
    generalize ws.length = n at *
    go_enter Tryz.func28, Tryz.ntmps28
    go_wp2_with (go_at_call 29; refine (HX0.out _ (HBW.out _)).mono ?_; rintro e2 w9 ⟨rfl, hb9⟩; obtain ⟨hc, hf⟩ := bcell hb9)
    have hbf := (HBW.out _).trans (hb9.mono (by simp))
    exact bodyPost_ret (v := .tuple #[.int .i64 0, .int .i64 0, .agg #[.int .i64 101, .bool true, .int .i64 ps]]) (by simp [results, Tryz.results28, go_sem, hc]) rfl ⟨rfl, ((hbf.setCell (Nat.le_refl _) _).setCell (Nat.le_refl _) _).setCell (Nat.le_refl _) _⟩
  case pos =>
  rw [ht0, show strOfNums [112] = ⟨#[112]⟩ from rfl] at t0
  cases hf0 : fst ws 0
  case false =>
    rw [headL_n0 (fun h => by rw [hf0] at h; cases h.2.1)]
    rw [hf0] at f0
    clear HX1 HX2 HX3 HP2 HP3 HPL HNO hok hv hw ht0 hf0
    show Calls _ _ _ _ (fun r w' => r = .returned (.tuple #[.int .i64 0, .int .i64 0, .agg #[.int .i64 101, .bool true, .int .i64 (posL ws 0 e)]]) ∧ Below w.heap.size w w')
    simp only [Flt.code, Flt.placed, Flt.pos] at HX0
    generalize posL ws 0 e = ps at *
    generalize ws.length = n at *
    go_enter Tryz.func28, Tryz.ntmps28
    go_wp2_with (go_at_call 29; refine (HX0.out _ (HBW.out _)).mono ?_; rintro e2 w9 ⟨rfl, hb9⟩; obtain ⟨hc, hf⟩ := bcell hb9)
    have hbf := (HBW.out _).trans (hb9.mono (by simp))
    exact bodyPost_ret (v := .tuple #[.int .i64 0, .int .i64 0, .agg #[.int .i64 101, .bool true, .int .i64 ps]]) (by simp [results, Tryz.results28, go_sem, hc]) rfl ⟨rfl, ((hbf.setCell (Nat.le_refl _) _).setCell (Nat.le_refl _) _).setCell (Nat.le_refl _) _⟩
  case true =>
  rw [hf0] at f0
  have h0 : 0 < ws.length ∧ fst ws 0 = true ∧ txt ws 0 = [112] := ⟨by omega, hf0, ht0⟩
  clear HX0 hf0 ht0
  by_cases hl1 : ws.length < 2
  case pos =>
    rw [headL_n1 h0 (fun h => by omega)]
    have hlb : decide ((ws.length : Int) < 2) = true := by simp; omega
    clear HX2 HX3 HP2 HP3 HPL HNO hok hv hw h0
    show Calls _ _ _ _ (fun r w' => r = .returned (.tuple #[.int .i64 0, .int .i64 0, .agg #[.int .i64 101, .bool true, .int .i64 (posL ws 1 e)]]) ∧ Below w.heap.size w w')
    simp only [Flt.code, Flt.placed, Flt.pos] at HX1
    generalize posL ws 1 e = ps at *
    generalize ws.length = n at *
    go_enter Tryz.func28, Tryz.ntmps28
    go_wp2_with (go_at_call 29; refine (HX1.out _ (HBW.out _)).mono ?_; rintro e2 w9 ⟨rfl, hb9⟩; obtain ⟨hc, hf⟩ := bcell hb9)
    have hbf := (HBW.out _).trans (hb9.mono (by simp))
    exact bodyPost_ret (v := .tuple #[.int .i64 0, .int .i64 0, .agg #[.int .i64 101, .bool true, .int .i64 ps]]) (by simp [results, Tryz.results28, go_sem, hc]) rfl ⟨rfl, ((hbf.setCell (Nat.le_refl _) _).setCell (Nat.le_refl _) _).setCell (Nat.le_refl _) _⟩
  case neg =>
  have hlb : decide ((ws.length : Int) < 2) = false := by simp; omega
  have hkq : (1 : Int) < ws.length := by omega
  have t1 : w.cell? ⟨g, 3, none⟩ = some (.string (strOfNums (txt ws 1))) := by have := hw.text 1 (by omega); rwa [Nat.one_mul] at this
  have f1 : w.cell? ⟨g, 5, none⟩ = some (.bool (fst ws 1)) := by have := hw.fst 1 (by omega); rwa [Nat.one_mul] at this
  by_cases ht1 : txt ws 1 = [99, 110, 102]
  case neg =>
    rw [headL_n1 h0 (fun h => ht1 h.2.2)]
    have hne := str_ne (ys := [99, 110, 102]) (hok.at (show 1 < ws.length by omega)).2.1 (by intro x hx; simp at hx; omega) ht1
    rw [show (strOfNums [99, 110, 102]).toList = [99, 110, 102] from by rw [str_toList]; rfl] at hne
    clear HX2 HX3 HP2 HP3 HPL HNO hok hv hw f1 ht1 h0
    generalize strOfNums (txt ws 1) = s at *
    show Calls _ _ _ _ (fun r w' => r = .returned (.tuple #[.int .i64 0, .int .i64 0, .agg #[.int .i64 101, .bool true, .int .i64 (posL ws 1 e)]]) ∧ Below w.heap.size w w')
    simp only [Flt.code, Flt.placed, Flt.pos] at HX1
    generalize posL ws 1 e = ps at *
    generalize ws.length = n at *
    go_enter Tryz.func28, Tryz.ntmps28
    go_wp2_with (go_at_call 29; refine (HX1.out _ (HBW.out _)).mono ?_; rintro e2 w9 ⟨rfl, hb9⟩; obtain ⟨hc, hf⟩ := bcell hb9)
    have hbf := (HBW.out _).trans (hb9.mono (by simp))
    exact bodyPost_ret (v := .tuple #[.int .i64 0, .int .i64 0, .agg #[.int .i64 101, .bool true, .int .i64 ps]]) (by simp [results, Tryz.results28, go_sem, hc]) rfl ⟨rfl, ((hbf.setCell (Nat.le_refl _) _).setCell (Nat.le_refl _) _).setCell (Nat.le_refl _) _⟩
  case pos =>
  rw [ht1, show strOfNums [99, 110, 102] = ⟨#[99, 110, 102]⟩ from rfl] at t1
  cases hf1 : fst ws 1
  case true =>
    rw [headL_n1 h0 (fun h => by rw [hf1] at h; cases h.2.1)]
    rw [hf1] at f1
    clear HX2 HX3 HP2 HP3 HPL HNO hok hv hw ht1 hf1 h0
    show Calls _ _ _ _ (fun r w' => r = .returned (.tuple #[.int .i64 0, .int .i64 0, .agg #[.int .i64 101, .bool true, .int .i64 (posL ws 1 e)]]) ∧ Below w.heap.size w w')
    simp only [Flt.code, Flt.placed, Flt.pos] at HX1
    generalize posL ws 1 e = ps at *
    generalize ws.length = n at *
    go_enter Tryz.func28, Tryz.ntmps28
    go_wp2_with (go_at_call 29; refine (HX1.out _ (HBW.out _)).mono ?_; rintro e2 w9 ⟨rfl, hb9⟩; obtain ⟨hc, hf⟩ := bcell hb9)
    have hbf := (HBW.out _).trans (hb9.mono (by simp))
    exact bodyPost_ret (v := .tuple #[.int .i64 0, .int .i64 0, .agg #[.int .i64 101, .bool true, .int .i64 ps]]) (by simp [results, Tryz.results28, go_sem, hc]) rfl ⟨rfl, ((hbf.setCell (Nat.le_refl _) _).setCell (Nat.le_refl _) _).setCell (Nat.le_refl _) _⟩
  case false =>
  rw [hf1] at f1
  have HH := Lib.hid (headL_n2 h0 ⟨by omega, hf1, ht1⟩)
  clear HX1 hf1 ht1 h0 hok
  cases h2 : cntL ws 2 with
  | none =>
    rw [h2, Option.getD_none, Option.isSome_none] at HP2
    rw [show headL ws = (0, 0, .text 2) by rw [HH.out, h2]]
    clear HX3 HP3 HPL HNO hv hw h2 HH
    show Calls _ _ _ _ (fun r w' => r = .returned (.tuple #[.int .i64 0, .int .i64 0, .agg #[.int .i64 101, .bool true, .int .i64 (posL ws 2 e)]]) ∧ Below w.heap.size w w')
    simp only [Flt.code, Flt.placed, Flt.pos] at HX2
    generalize posL ws 2 e = ps at *
    generalize ws.length = n at *
    go_enter Tryz.func28, Tryz.ntmps28
    go_wp2_with (first
      | (go_at_call_of 59 (Value.int IntKind.i64 (2 : Int)); refine (HP2.out _ (HBW.out _)).mono ?_; rintro e2 w2 ⟨rfl, hp2⟩; have hq2 := (HBW.out _).trans (hp2.mono (by simp)))
      | (go_at_call 29; refine (HX2.out _ hq2).mono ?_; rintro e2 w9 ⟨rfl, hb9⟩; have hbf := hq2.trans (hb9.mono hq2.size); obtain ⟨hc, hf⟩ := bcell (hp2.trans (hb9.mono hp2.size))))
    exact bodyPost_ret (v := .tuple #[.int .i64 0, .int .i64 0, .agg #[.int .i64 101, .bool true, .int .i64 ps]]) (by simp [results, Tryz.results28, go_sem, hc]) rfl ⟨rfl, ((hbf.setCell (Nat.le_refl _) _).setCell (Nat.le_refl _) _).setCell (Nat.le_refl _) _⟩
  | some x =>
    have hk2 := cnt_in h2
    have hx0 := cnt_bd h2
    rw [h2, Option.getD_some, Option.isSome_some] at HP2
    have HG7 : Hid (∀ W, Below w.heap.size w W → W.cell? ⟨g, 7, none⟩ = some (.int .i64 (ws.getD 2 wd0).2.1)) := fun W hW => HG.out 7 _ (hw.pos 2 hk2) W hW
    have HPS2 : Hid (posL ws 2 e = (ws.getD 2 wd0).2.1) := by unfold posL; rw [if_pos hk2]; rfl
    have hk2c : (2 : Int) < ws.length := by omega
    by_cases hx : 4000 < x
    case pos =>
      rw [show headL ws = (0, 0, .lim 2) by rw [HH.out, h2]; simp [hx]]
      clear HX2 HX3 HP3 HNO hv hw h2 HH
      show Calls _ _ _ _ (fun r w' => r = .returned (.tuple #[.int .i64 0, .int .i64 0, .agg #[.int .i64 102, .bool true, .int .i64 (posL ws 2 e)]]) ∧ Below w.heap.size w w')
      rw [HPS2.out]
      generalize (ws.getD 2 wd0).2.1 = ps at *
      generalize ws.length = n at *
      go_enter Tryz.func28, Tryz.ntmps28
      go_wp2_with (first
        | (go_at_call_of 59 (Value.int IntKind.i64 (2 : Int)); refine (HP2.out _ (HBW.out _)).mono ?_; rintro e2 w2 ⟨rfl, hp2⟩; have hq2 := (HBW.out _).trans (hp2.mono (by simp)); have g7 := HG7.out _ hq2)
        | (go_at_call 21; refine (HPL.out _ _).mono ?_; rintro e2 w9 ⟨rfl, hb9⟩; have hbf := hq2.trans (hb9.mono hq2.size); obtain ⟨hc, hf⟩ := bcell (hp2.trans (hb9.mono hp2.size))))
      exact bodyPost_ret (v := .tuple #[.int .i64 0, .int .i64 0, .agg #[.int .i64 102, .bool true, .int .i64 ps]]) (by simp [results, Tryz.results28, go_sem, hc]) rfl ⟨rfl, ((hbf.setCell (Nat.le_refl _) _).setCell (Nat.le_refl _) _).setCell (Nat.le_refl _) _⟩
    case neg =>
    have hxb : decide (4000 < x) = false := by simpa using hx
    cases h3 : cntL ws 3 with
    | none =>
      rw [h3, Option.getD_none, Option.isSome_none] at HP3
      rw [show headL ws = (0, 0, .text 3) by rw [HH.out, h2, h3]; simp [hx]]
      clear HX2 HPL HNO hv hw h2 h3 HH HPS2 HG7 hx
      show Calls _ _ _ _ (fun r w' => r = .returned (.tuple #[.int .i64 0, .int .i64 0, .agg #[.int .i64 101, .bool true, .int .i64 (posL ws 3 e)]]) ∧ Below w.heap.size w w')
      simp only [Flt.code, Flt.placed, Flt.pos] at HX3
      generalize posL ws 3 e = ps at *
      generalize ws.length = n at *
      go_enter Tryz.func28, Tryz.ntmps28
      go_wp2_with (first
        | (go_at_call_of 59 (Value.int IntKind.i64 (2 : Int)); refine (HP2.out _ (HBW.out _)).mono ?_; rintro e2 w2 ⟨rfl, hp2⟩; have hq2 := (HBW.out _).trans (hp2.mono (by simp)))
        | (go_at_call_of 59 (Value.int IntKind.i64 (3 : Int)); refine (HP3.out _ hq2).mono ?_; rintro e2 w3 ⟨rfl, hp3⟩; have hq3 := hq2.trans (hp3.mono hq2.size); have hz3 := hp2.trans (hp3.mono hp2.size))
        | (go_at_call 29; refine (HX3.out _ hq3).mono ?_; rintro e2 w9 ⟨rfl, hb9⟩; have hbf := hq3.trans (hb9.mono hq3.size); obtain ⟨hc, hf⟩ := bcell (hz3.trans (hb9.mono hz3.size))))
      exact bodyPost_ret (v := .tuple #[.int .i64 0, .int .i64 0, .agg #[.int .i64 101, .bool true, .int .i64 ps]]) (by simp [results, Tryz.results28, go_sem, hc]) rfl ⟨rfl, ((hbf.setCell (Nat.le_refl _) _).setCell (Nat.le_refl _) _).setCell (Nat.le_refl _) _⟩
    | some y =>
      have hk3 := cnt_in h3
      have hy0 := cnt_bd h3
      rw [h3, Option.getD_some, Option.isSome_some] at HP3
      have HG10 : Hid (∀ W, Below w.heap.size w W → W.cell? ⟨g, 10, none⟩ = some (.int .i64 (ws.getD 3 wd0).2.1)) := fun W hW => HG.out 10 _ (hw.pos 3 hk3) W hW
      have HPS3 : Hid (posL ws 3 e = (ws.getD 3 wd0).2.1) := by unfold posL; rw [if_pos hk3]; rfl
      have hk3c : (3 : Int) < ws.length := by omega
      by_cases hy : 20000 < y
      case pos =>
        rw [show headL ws = (0, 0, .lim 3) by rw [HH.out, h2, h3]; simp [hx, hy]]
        clear HX2 HX3 HNO hv hw h2 h3 HH HPS2 HG7 hx
        show Calls _ _ _ _ (fun r w' => r = .returned (.tuple #[.int .i64 0, .int .i64 0, .agg #[.int .i64 102, .bool true, .int .i64 (posL ws 3 e)]]) ∧ Below w.heap.size w w')
        rw [HPS3.out]
        generalize (ws.getD 3 wd0).2.1 = ps at *
        generalize ws.length = n at *
        go_enter Tryz.func28, Tryz.ntmps28
        go_wp2_with (first
          | (go_at_call_of 59 (Value.int IntKind.i64 (2 : Int)); refine (HP2.out _ (HBW.out _)).mono ?_; rintro e2 w2 ⟨rfl, hp2⟩; have hq2 := (HBW.out _).trans (hp2.mono (by simp)))
          | (go_at_call_of 59 (Value.int IntKind.i64 (3 : Int)); refine (HP3.out _ hq2).mono ?_; rintro e2 w3 ⟨rfl, hp3⟩; have hq3 := hq2.trans (hp3.mono hq2.size); have hz3 := hp2.trans (hp3.mono hp2.size); have g10 := HG10.out _ hq3)
          | (go_at_call 21; refine (HPL.out _ _).mono ?_; rintro e2 w9 ⟨rfl, hb9⟩; have hbf := hq3.trans (hb9.mono hq3.size); obtain ⟨hc, hf⟩ := bcell (hz3.trans (hb9.mono hz3.size))))
        exact bodyPost_ret (v := .tuple #[.int .i64 0, .int .i64 0, .agg #[.int .i64 102, .bool true, .int .i64 ps]]) (by simp [results, Tryz.results28, go_sem, hc]) rfl ⟨rfl, ((hbf.setCell (Nat.le_refl _) _).setCell (Nat.le_refl _) _).setCell (Nat.le_refl _) _⟩
      case neg =>
        rw [show headL ws = (x, y, .ok) by rw [HH.out, h2, h3]; simp [hx, hy]]
        have hyb : decide (20000 < y) = false := by simpa using hy
        clear HX2 HX3 HPL hv hw h2 h3 HH HPS2 HPS3 HG7 HG10 hx hy
        show Calls _ _ _ _ (fun r w' => r = .returned (.tuple #[.int .i64 x, .int .i64 y, .agg #[.int .i64 0, .bool false, .int .i64 0]]) ∧ Below w.heap.size w w')
        generalize ws.length = n at *
        go_enter Tryz.func28, Tryz.ntmps28
        go_wp2_with (first
          | (go_at_call_of 59 (Value.int IntKind.i64 (2 : Int)); refine (HP2.out _ (HBW.out _)).mono ?_; rintro e2 w2 ⟨rfl, hp2⟩; have hq2 := (HBW.out _).trans (hp2.mono (by simp)))
          | (go_at_call_of 59 (Value.int IntKind.i64 (3 : Int)); refine (HP3.out _ hq2).mono ?_; rintro e2 w3 ⟨rfl, hp3⟩; have hq3 := hq2.trans (hp3.mono hq2.size); have hz3 := hp2.trans (hp3.mono hp2.size))
          | (go_at_call 42; refine (HNO.out _).mono ?_; rintro e2 w9 ⟨rfl, hb9⟩; have hbf := hq3.trans (hb9.mono hq3.size); obtain ⟨hc, hf⟩ := bcell (hz3.trans (hb9.mono hz3.size))))
        exact bodyPost_ret (v := .tuple #[.int .i64 x, .int .i64 y, .agg #[.int .i64 0, .bool false, .int .i64 0]]) (by simp [results, Tryz.results28, go_sem, hc]) rfl ⟨rfl, ((hbf.setCell (Nat.le_refl _) _).setCell (Nat.le_refl _) _).setCell (Nat.le_refl _) _⟩
end Go.Proofs.YtfoohdknjacenaaGreatDoor

namespace Go.Proofs.YtfoohdknjacenaaGreatDoor
open Go.RowKit

set_option maxHeartbeats 400000 in
theorem refIs_any (l v : Int) (w : World) (h1 : -9223372036854775807 ≤ l) (h2 : l ≤ 9223372036854775807) (hv1 : -9223372036854775808 ≤ v) (hv2 : v ≤ 9223372036854775807) :
    Calls Tryz.prog 61 #[.int .i64 l, .int .i64 v] w fun e w' => e = .returned (.bool (isB v l)) ∧ w = w' := by
  have H := Lib.hid (show isB v l = decide (l ≠ 0 ∧ l ≤ v ∧ -v ≤ l) from by
    unfold isB absI; rw [Bool.eq_iff_iff]; simp; split <;> omega)
  generalize isB v l = r at *
  by_cases h0 : l = 0
  · subst h0
    go_enter Tryz.func61, Tryz.ntmps61
    go_wp2
    go_ret
    exact ⟨ret_bool (by rw [H.out]; simp), rfl⟩
  have hb0 : (l == 0) = false := by simp [h0]
  have hb0' : (l != 0) = true := by simp [h0]
  by_cases hle : l ≤ v
  · have hd : decide (l ≤ v) = true := by simp [hle]
    go_enter Tryz.func61, Tryz.ntmps61
    go_wp2
    go_ret
    exact ⟨ret_bool (by rw [H.out]; simp [h0, hle]), rfl⟩
  · have hd : decide (l ≤ v) = false := by simp; omega
    go_enter Tryz.func61, Tryz.ntmps61
    go_wp2
    go_ret
    exact ⟨ret_bool (by rw [H.out]; simp; omega), rfl⟩

def RCPost (w : World) (ws : List Wd) (e : Int) (R : List (List Int) × Flt) (r : Ending) (w' : World) : Prop := (∃ cv, r = .returned (.tuple #[cv, fltV ws e R.2]) ∧ CRow w' (w.heap.size + 1) cv R.1) ∧ Below w.heap.size w w'

set_option maxHeartbeats 4000000 in
theorem refCls_any (v : Value) (ws : List Wd) (e vars many : Int) (w : World) (hv : WRowO w v ws) (hok : WOk ws) (hn : ws.length ≤ 4000) (hv1 : -9223372036854775808 ≤ vars) (hv2 : vars ≤ 9223372036854775807) :
    Calls Tryz.prog 32 #[v, .int .i64 e, .int .i64 vars, .int .i64 many] w (RCPost w ws e (clausesL vars many 0 ws [] [])) := by
  have HB0 : Hid (∀ o, Below w.heap.size w (w.alloc o)) := fun o => (Below.refl _ w).alloc (Nat.le_refl _) _
  have HTX := Lib.hid (fun (k : Nat) W (hW : Below w.heap.size w W) => refText_any v ws k e W (hv.keep hW))
  have HNO := Lib.hid (fun W => none_any W)
  obtain ⟨a, cap, rfl, hcl, hcm, hw⟩ := hv
  have HWD := Lib.hid hw; clear hw
  have HOK := Lib.hid hok; clear hok
  have hpost : ∀ W R cv, R = clausesL vars many 0 ws [] [] → Below w.heap.size w W → CRow W (w.heap.size + 1) cv R.1 → ∀ fv, fv = fltV ws e R.2 → RCPost w ws e (clausesL vars many 0 ws [] []) (.returned (.tuple #[cv, fv])) W := fun W R cv hR hb hc fv hf => by
    rw [← hR, hf]
    exact ⟨⟨_, rfl, hc⟩, hb⟩
  have HPO := Lib.hid hpost; clear hpost
  generalize hR : clausesL vars many 0 ws [] [] = R at *
  have HR := Lib.hid hR; clear hR
  have HEND := Lib.hid (fun dn cur (h : (dn.length : Int) < many) => cl_end (vars := vars) (many := many) (ws := ws) (i := ws.length) (out := dn) (c := cur) (Nat.le_refl _) h)
  have HDONE := Lib.hid (fun dn cur (h : ¬ (dn.length : Int) < many) => cl_done (vars := vars) (many := many) (ws := ws) (i := ws.length) (out := dn) (c := cur) (Nat.le_refl _) h)
  have HFV := Lib.hid (fun k => show fltV ws e (.text k) = .agg #[.int .i64 101, .bool true, .int .i64 (posL ws k e)] from rfl)
  have HFN := Lib.hid (show fltV ws e .ok = .agg #[.int .i64 0, .bool false, .int .i64 0] from rfl)
  unfold faultV at HNO
  generalize hN : ws.length = n at *
  have HN := Lib.hid hN; clear hN
  generalize hP : RCPost w ws e R = P at *
  clear hP
  go_enter Tryz.func32, Tryz.ntmps32
  go_wp2_with fail
  have hw0b := HB0.out (.cells #[.int .i64 0, .bool false, .int .i64 0] 35)
  have hw0s : (w.alloc (.cells #[.int .i64 0, .bool false, .int .i64 0] 35)).heap.size = w.heap.size + 1 := by simp
  have hw0c : ∀ k v, (#[Value.int .i64 0, .bool false, .int .i64 0] : Array Value)[k]? = some v → (w.alloc (.cells #[.int .i64 0, .bool false, .int .i64 0] 35)).cell? ⟨w.heap.size, k, none⟩ = some v := fun k v h => by rw [World.cell?_alloc_at _ _ _ _ (by simp)]; exact h
  have hw0f : ∀ k, (w.alloc (.cells #[.int .i64 0, .bool false, .int .i64 0] 35)).frozen? ⟨w.heap.size, k, none⟩ = false := fun k => World.frozen?_alloc_at _ _ _ _ (by simp)
  generalize w.alloc (.cells #[.int .i64 0, .bool false, .int .i64 0] 35) = w0 at *
  have HW0B := Lib.hid hw0b; clear hw0b
  have HRES : Hid (∀ W, Below w0.heap.size w0 W → W.cell? ⟨w.heap.size, 0, none⟩ = some (.int .i64 0) ∧ W.cell? ⟨w.heap.size, 1, none⟩ = some (.bool false) ∧ W.cell? ⟨w.heap.size, 2, none⟩ = some (.int .i64 0) ∧ (∀ k, W.frozen? ⟨w.heap.size, k, none⟩ = false) ∧ w.heap.size + 1 ≤ W.heap.size) := fun W hW => by
    have hlt : w.heap.size < w0.heap.size := by omega
    refine ⟨(hW.cell (p := ⟨w.heap.size, 0, none⟩) hlt).trans (hw0c 0 _ rfl), (hW.cell (p := ⟨w.heap.size, 1, none⟩) hlt).trans (hw0c 1 _ rfl), (hW.cell (p := ⟨w.heap.size, 2, none⟩) hlt).trans (hw0c 2 _ rfl), fun k => (hW.frozen (p := ⟨w.heap.size, k, none⟩) hlt).trans (hw0f k), by have := hW.size; omega⟩
  clear hw0c hw0f
  have HSZ := Lib.hid hw0s; clear hw0s
  go_loopw [10, 11, 12, 13] (fun o c al i wr => ∃ (k q : Nat) (vs : List Value) (dn : List (List Int)) (cur : List Int), k ≤ n ∧ i = .int .i64 k ∧ al = .int .i64 q ∧ q ≤ k ∧ ClG wr (w.heap.size + 1) o c vs dn cur ∧ Below w0.heap.size w0 wr ∧ dn.length ≤ k ∧ cur.length ≤ k ∧ Hid (clausesL vars many k (ws.drop k) dn cur = R)) (fun _ _ _ i _ => n - (intOf i).toNat)
  case atStart => exact ⟨0, 0, _, _, _, Nat.zero_le _, rfl, rfl, Nat.le_refl _, ClG.start _ _, Below.refl _ _, Nat.le_refl _, Nat.le_refl _, HR.out⟩
  case round =>
    obtain ⟨k, q, vs, dn, cur, hk, rfl, rfl, hqk, hI, hbr, hl1, hl2, HQ⟩ := hrel
    have hownc := hI.row
    have hsz : w.heap.size + 1 ≤ wr.heap.size := (HRES.out _ hbr).2.2.2.2
    obtain ⟨ac, capc, rfl, hcc1, hcc2⟩ := own_shape hI.row
    obtain ⟨ao, capo, rfl, hco1, hco2⟩ := own_shape hI.out
    unfold maxLen at hcc2 hco2 hcm
    have HI := Lib.hid hI; clear hI
    have HBR := Lib.hid (show Below w.heap.size w wr from HW0B.out.trans (hbr.mono (by have := HSZ.out; omega)))
    have HBR0 := Lib.hid hbr; clear hbr
    have HFIN : Hid (∀ (wr2 W : World) (x y z : Value), Below wr2.heap.size wr2 W → Below w.heap.size w wr2 → Below w.heap.size w (((W.setCell ⟨w.heap.size, 0, none⟩ x).setCell ⟨w.heap.size, 1, none⟩ y).setCell ⟨w.heap.size, 2, none⟩ z)) := fun wr2 W x y z h1 h2 => (((h2.trans (h1.mono h2.size)).setCell (Nat.le_refl _) _).setCell (Nat.le_refl _) _).setCell (Nat.le_refl _) _
    have HTXK := Lib.hid (HTX.out k)
    rw [HFV.out k] at HTXK
    have HFVK := Lib.hid (HFV.out k)
    generalize hps : posL ws k e = ps at *
    clear hps
    by_cases hlt : k < n
    · have hkl : k < ws.length := by rw [HN.out]; exact hlt
      obtain ⟨g, off, ha, hwc0⟩ := HWD.out.resolve_left (by omega)
      subst ha
      have hwc := hwc0.keep HBR.out
      have t1 : wr.cell? ⟨g, off + k * 3, none⟩ = some (.string (strOfNums (txt ws k))) := hwc.text k hkl
      obtain ⟨x1, x2, x3⟩ := HOK.out.at hkl
      have HNUM := Lib.hid (fun W => refNum_any (txt ws k) W x2 x3)
      unfold NumPost at HNUM
      have HNB := Lib.hid (fun l (h : numL (txt ws k) = some l) => numL_bd h)
      have HMORE := Lib.hid (fun (h : many ≤ (dn.length : Int)) => cl_more (vars := vars) (c := cur) hkl h)
      have HNONE := Lib.hid (fun (h : numL (txt ws k) = none) => cl_none (vars := vars) (many := many) (out := dn) (c := cur) hkl h)
      have HZERO := Lib.hid (fun h1 (h : numL (txt ws k) = some 0) => cl_zero (vars := vars) (many := many) (out := dn) (c := cur) hkl h1 h)
      have HLIT := Lib.hid (fun l h1 (h : numL (txt ws k) = some l) => cl_lit (vars := vars) (many := many) (out := dn) (c := cur) hkl h1 h)
      have HBADL := Lib.hid (fun l (h : numL (txt ws k) = some l) => cl_bad (vars := vars) (many := many) (out := dn) (c := cur) hkl h)
      have HIS := Lib.hid (fun (l : Int) (h1 : -1000000000 < l ∧ l < 1000000000) W => refIs_any l vars W (by omega) (by omega) hv1 hv2)
      have hkb : decide ((n : Int) ≤ (k : Int)) = false := by simp; omega
      have hkc : decide ((k : Int) < (n : Int)) = true := by simp; omega
      have hkd : (k : Int) < n := by omega
      clear hwc hwc0 x1 x2 x3 hkl
      generalize txt ws k = xs at *
      generalize strOfNums xs = s at *
      generalize hdl : dn.length = d at *
      have HDL := Lib.hid hdl; clear hdl
      generalize hcu : cur.length = cu at *
      have HCU := Lib.hid hcu; clear hcu
      by_cases hmany : many ≤ (d : Int)
      · have HE := Lib.hid (HQ.out.symm.trans (HMORE.out hmany))
        have hmb : decide ((d : Int) < many) = false := by simp; omega
        clear HMORE HNONE HZERO HLIT HBADL HIS HNUM hmany
        go_wp2_with (go_at_call 29; refine (HTXK.out _ HBR.out).mono ?_; rintro e2 w9 ⟨rfl, hb9⟩; obtain ⟨hc0, hc1, hc2, hf, hs9⟩ := HRES.out w9 (HBR0.out.trans (hb9.mono HBR0.out.size)))
        exact bodyPost_ret (v := .tuple #[.slice none 0 0, .agg #[.int .i64 101, .bool true, .int .i64 ps]]) (by simp [results, Tryz.results32, go_sem, hc0, hc1, hc2]) rfl (HPO.out _ _ _ HE.out.symm (HFIN.out wr w9 _ _ _ hb9 HBR.out) (CRow.nil _ _) _ HFVK.out.symm)
      · have hmb : decide ((d : Int) < many) = true := by simp; omega
        have HM := Lib.hid (show (d : Int) < many by omega)
        clear hmany HMORE
        cases hnum : numL xs with
        | none =>
          rw [hnum] at HNUM
          have HE := Lib.hid (HQ.out.symm.trans (HNONE.out hnum))
          clear hnum HNB HNONE HZERO HLIT HBADL HIS
          go_wp2_with (first
            | (go_at_call 30; refine (HNUM.out _).mono ?_; rintro e2 w2 ⟨rfl, hb2⟩; have hbk := HBR.out.trans (hb2.mono HBR.out.size); have hbk0 := HBR0.out.trans (hb2.mono HBR0.out.size))
            | (go_at_call 29; refine (HTXK.out _ hbk).mono ?_; rintro e2 w9 ⟨rfl, hb9⟩; obtain ⟨hc0, hc1, hc2, hf, hs9⟩ := HRES.out w9 (hbk0.trans (hb9.mono hbk0.size))))
          exact bodyPost_ret (v := .tuple #[.slice none 0 0, .agg #[.int .i64 101, .bool true, .int .i64 ps]]) (by simp [results, Tryz.results32, go_sem, hc0, hc1, hc2]) rfl (HPO.out _ _ _ HE.out.symm (HFIN.out w2 w9 _ _ _ hb9 hbk) (CRow.nil _ _) _ HFVK.out.symm)
        | some l =>
          have hlb := HNB.out l hnum
          rw [hnum] at HNUM
          by_cases hl0 : l = 0
          · subst hl0
            have HQ' := Lib.hid ((HZERO.out HM.out hnum).symm.trans HQ.out)
            clear hnum HNB HNONE HZERO HLIT HBADL HIS HTXK HQ
            go_wp2_with (first
              | (go_at_call 30; refine (HNUM.out _).mono ?_; rintro e2 w2 ⟨rfl, hb2⟩; have hbk := HBR.out.trans (hb2.mono HBR.out.size); have hbk0 := HBR0.out.trans (hb2.mono HBR0.out.size); have HI2 := Lib.hid (HI.out.keep hb2); have ho2 := HI2.out.out; rw [HDL.out] at ho2; have hs2 : w.heap.size + 1 ≤ w2.heap.size := (HRES.out _ hbk0).2.2.2.2)
              | (at_builtin; refine wpList_appV 25 46 (.slice none 0 0) 24 Tryz.underlying25 infoInts rfl (by decide) rfl _ _ rfl w2 (w.heap.size + 1) _ _ _ _ rfl ho2 hs2 (by omega) _ rfl rfl rfl ?_; intro o' w3 ho3 hap3))
            go_roundw
            case rel => exact ⟨k + 1, q, _, dn ++ [cur], [], by omega, by go_num, rfl, by omega, HI2.out.push hap3 (by rw [HDL.out]; exact ho3), hbk0.trans (by have := hap3.below; exact this.mono (by have := HSZ.out; omega)), by rw [List.length_append, HDL.out, List.length_singleton]; omega, by simp, HQ'.out⟩
            case measure => go_light; simp [intOf]; omega
          · have hl0b : (l == 0) = false := by simp [hl0]
            have hl0c : (l != 0) = true := by simp [hl0]
            have HISL := Lib.hid (HIS.out l hlb)
            rw [show isB vars l = isF l vars from isF_abs l vars] at HISL
            cases hisf : isF l vars with
            | false =>
              have HE := Lib.hid (HQ.out.symm.trans (HBADL.out l hnum hl0 hisf))
              rw [hisf] at HISL
              clear hnum HNB HNONE HZERO HLIT HBADL HIS HQ hisf hl0
              go_wp2_with (first
                | (go_at_call 30; refine (HNUM.out _).mono ?_; rintro e2 w2 ⟨rfl, hb2⟩; have hbk := HBR.out.trans (hb2.mono HBR.out.size); have hbk0 := HBR0.out.trans (hb2.mono HBR0.out.size))
                | (go_at_call 61; refine (HISL.out _).mono ?_; rintro e2 w' ⟨rfl, rfl⟩)
                | (go_at_call 29; refine (HTXK.out _ hbk).mono ?_; rintro e2 w9 ⟨rfl, hb9⟩; obtain ⟨hc0, hc1, hc2, hf, hs9⟩ := HRES.out w9 (hbk0.trans (hb9.mono hbk0.size))))
              exact bodyPost_ret (v := .tuple #[.slice none 0 0, .agg #[.int .i64 101, .bool true, .int .i64 ps]]) (by simp [results, Tryz.results32, go_sem, hc0, hc1, hc2]) rfl (HPO.out _ _ _ HE.out.symm (HFIN.out w2 w9 _ _ _ hb9 hbk) (CRow.nil _ _) _ HFVK.out.symm)
            | true =>
              have HQ' := Lib.hid ((HLIT.out l HM.out hnum hl0 hisf).symm.trans HQ.out)
              rw [hisf] at HISL
              have hq8 : decide ((80000 : Int) < (q : Int) + 1) = false := by simp; omega
              clear hnum HNB HNONE HZERO HLIT HBADL HIS HTXK HQ hisf hl0
              go_wp2_with (first
                | (go_at_call 30; refine (HNUM.out _).mono ?_; rintro e2 w2 ⟨rfl, hb2⟩; have hbk := HBR.out.trans (hb2.mono HBR.out.size); have hbk0 := HBR0.out.trans (hb2.mono HBR0.out.size); have HI2 := Lib.hid (HI.out.keep hb2); have hr2 := HI2.out.row; rw [HCU.out] at hr2; have hs2 : w.heap.size + 1 ≤ w2.heap.size := (HRES.out _ hbk0).2.2.2.2)
                | (go_at_call 61; refine (HISL.out _).mono ?_; rintro e2 w' ⟨rfl, rfl⟩)
                | (at_builtin; refine wpList_app1 rfl _ _ rfl w2 (w.heap.size + 1) _ _ _ _ hr2 hs2 (by omega) rfl rfl ?_; intro v' w3 hown3 hap3))
              go_roundw
              case rel => exact ⟨k + 1, q + 1, vs, dn, cur ++ [_], by omega, by go_num, by go_num, by omega, HI2.out.add hap3 (by rw [HCU.out]; exact hown3), hbk0.trans (by have := hap3.below; exact this.mono (by have := HSZ.out; omega)), by rw [HDL.out]; omega, by rw [List.length_append, HCU.out, List.length_singleton]; omega, HQ'.out⟩
              case measure => go_light; simp [intOf]; omega
    · have hkn : k = n := by omega
      subst hkn
      by_cases hd : (dn.length : Int) < many
      · have HE := Lib.hid (HQ.out.symm.trans (HEND.out dn cur hd))
        clear HEND HDONE
        generalize dn.length = d at *
        go_wp2_with (go_at_call 29; refine (HTXK.out _ HBR.out).mono ?_; rintro e2 w9 ⟨rfl, hb9⟩; obtain ⟨hc0, hc1, hc2, hf, hs9⟩ := HRES.out w9 (HBR0.out.trans (hb9.mono HBR0.out.size)))
        exact bodyPost_ret (v := .tuple #[.slice none 0 0, .agg #[.int .i64 101, .bool true, .int .i64 ps]]) (by simp [results, Tryz.results32, go_sem, hc0, hc1, hc2]) rfl (HPO.out _ _ _ HE.out.symm (HFIN.out wr w9 _ _ _ hb9 HBR.out) (CRow.nil _ _) _ HFVK.out.symm)
      · have HE := Lib.hid (HQ.out.symm.trans (HDONE.out dn cur (by omega)))
        have hdb : decide ((dn.length : Int) < many) = false := by simpa using hd
        have HRW := Lib.hid (show CRow _ _ _ _ from ⟨_, _, _, HI.out⟩)
        clear HEND HDONE hd
        generalize hdl : dn.length = d at *
        have HDL := Lib.hid hdl; clear hdl
        go_wp2_with (go_at_call 42; refine (HNO.out _).mono ?_; rintro e2 w9 ⟨rfl, hb9⟩; obtain ⟨hc0, hc1, hc2, hf, hs9⟩ := HRES.out w9 (HBR0.out.trans (hb9.mono HBR0.out.size)))
        exact bodyPost_ret (v := .tuple #[.slice ao d capo, .agg #[.int .i64 0, .bool false, .int .i64 0]]) (by simp [results, Tryz.results32, go_sem, hc0, hc1, hc2]) rfl (HPO.out _ _ _ HE.out.symm (HFIN.out wr w9 _ _ _ hb9 HBR.out) ((((HRW.out.keep hb9).set _ _ _ (by omega)).set _ _ _ (by omega)).set _ _ _ (by omega)) _ HFN.out.symm)
end Go.Proofs.YtfoohdknjacenaaGreatDoor

namespace Go.Proofs.YtfoohdknjacenaaGreatDoor
open Go.RowKit

def nearB (l : Int) : Bool := !decide (l < -1152921504606846976)
theorem nearB_iff (l : Int) : nearB l = true ↔ -1152921504606846976 ≤ l := by unfold nearB; simp

set_option maxHeartbeats 1000000 in
theorem near_any (v : Value) (xs : List Int) (w : World) (hv : Row w v xs) :
    Calls Tryz.prog 38 #[v] w fun e w' => e = .returned (.bool (xs.all nearB)) ∧ w = w' := by
  obtain ⟨a, c, rfl, hxc, hcm, hx⟩ := hv
  unfold maxLen at hcm
  have HX := Lib.hid hx; clear hx
  generalize hN : xs.length = n at *
  have HN := Lib.hid hN; clear hN
  go_enter Tryz.func38, Tryz.ntmps38
  go_wp2
  go_loop [3] (fun i => ∃ k : Nat, k ≤ n ∧ i = .int .i64 k ∧ Hid ((xs.take k).all nearB = true)) (fun i => n - (intOf i).toNat)
  case atStart => exact ⟨0, Nat.zero_le _, rfl, by simp [Hid]⟩
  case round =>
    obtain ⟨k, hk, rfl, HQ⟩ := hrel
    by_cases hlt : k < n
    · obtain ⟨b, off, ha, hb, hc⟩ := HX.out.resolve_left (by omega)
      subst ha
      have g1 : w.cell? ⟨b, off + k, none⟩ = some (.int .i64 (xs.getD k 0)) := hc k hlt
      clear hc
      have hkl : k < xs.length := by rw [HN.out]; exact hlt
      have HT := Lib.hid (show (xs.take (k + 1)).all nearB = ((xs.take k).all nearB && nearB (xs.getD k 0)) by rw [take_snoc xs k hkl, List.all_append]; simp)
      have HF := Lib.hid (show nearB (xs.getD k 0) = false → xs.all nearB = false from fun h => by
        rw [List.all_eq_false]
        exact ⟨xs[k], List.getElem_mem hkl, by simpa [List.getD, hkl] using h⟩)
      clear hkl
      generalize xs.getD k 0 = y at *
      by_cases hy : y < -1152921504606846976
      · go_wp2
        go_ret
        exact ⟨by rw [HF.out (by unfold nearB; simp [hy])]; rfl, rfl⟩
      · go_wp2
        go_round
        case rel => exact ⟨k + 1, by omega, by go_num, by unfold Hid; rw [HT.out, HQ.out]; unfold nearB; simp; omega⟩
        case measure => simp [intOf]; omega
    · have hkn : k = n := by omega
      have HA := Lib.hid (show xs.all nearB = true by have := HQ.out; rwa [hkn, List.take_of_length_le (by rw [HN.out]; exact Nat.le_refl _)] at this)
      clear hlt
      go_wp2
      go_ret
      exact ⟨by rw [HA.out]; rfl, rfl⟩
end Go.Proofs.YtfoohdknjacenaaGreatDoor

namespace Go.Proofs.YtfoohdknjacenaaGreatDoor
open Go.RowKit

set_option maxHeartbeats 1000000 in
theorem nearAll_any (a : Option Addr) (cap : Nat) (xss : List (List Int)) (w : World) (hr : RowsAt w a cap xss) :
    Calls Tryz.prog 36 #[.slice a xss.length cap] w fun e w' => e = .returned (.bool (xss.all fun xs => xs.all nearB)) ∧ w = w' := by
  obtain ⟨hc1, hc2, hr⟩ := hr
  unfold maxLen at hc2
  have HR := Lib.hid hr; clear hr
  generalize hN : xss.length = n at *
  have HN := Lib.hid hN; clear hN
  go_enter Tryz.func36, Tryz.ntmps36
  go_wp2_with fail
  go_loop [3] (fun i => ∃ k : Nat, k ≤ n ∧ i = .int .i64 k ∧ Hid (((xss.take k).all fun xs => xs.all nearB) = true)) (fun i => n - (intOf i).toNat)
  case atStart => exact ⟨0, Nat.zero_le _, rfl, by simp [Hid]⟩
  case round =>
    obtain ⟨k, hk, rfl, HQ⟩ := hrel
    by_cases hlt : k < n
    · obtain ⟨b, off, ha, hb, hc⟩ := HR.out.resolve_left (by omega)
      subst ha
      obtain ⟨v, g1, hv⟩ := hc k hlt
      clear hc
      have hkl : k < xss.length := by rw [HN.out]; exact hlt
      have hgk : xss.getD k [] = xss[k] := by simp [List.getD, hkl]
      have HT := Lib.hid (show ((xss.take (k + 1)).all fun xs => xs.all nearB) = (((xss.take k).all fun xs => xs.all nearB) && (xss.getD k []).all nearB) by
        rw [List.take_succ_eq_append_getElem hkl, List.all_append, hgk]; simp)
      have HF := Lib.hid (show (xss.getD k []).all nearB = false → (xss.all fun xs => xs.all nearB) = false from fun h => by
        rw [List.all_eq_false]
        exact ⟨xss[k], List.getElem_mem hkl, by rw [← hgk, h]; simp⟩)
      have HNE := Lib.hid (fun W (h : Row W v (xss.getD k [])) => near_any v _ W h)
      clear hgk hkl
      generalize xss.getD k [] = ys at *
      obtain ⟨av, cv, rfl, hrv⟩ := hv
      have HRV := Lib.hid (show Row w (.slice av ys.length cv) ys from ⟨_, _, rfl, hrv⟩)
      clear hrv
      cases hy : ys.all nearB with
      | false =>
        rw [hy] at HNE
        have HF' := Lib.hid (HF.out hy)
        clear HF hy
        go_wp2_with (go_at_call 38; refine (HNE.out _ HRV.out).mono ?_; rintro e w' ⟨rfl, rfl⟩)
        go_ret
        exact ⟨by rw [HF'.out]; rfl, rfl⟩
      | true =>
        rw [hy] at HNE
        have HT' := Lib.hid (show ((xss.take (k + 1)).all fun xs => xs.all nearB) = true by rw [HT.out, HQ.out, hy]; rfl)
        clear HF hy HT
        go_wp2_with (go_at_call 38; refine (HNE.out _ HRV.out).mono ?_; rintro e w' ⟨rfl, rfl⟩)
        go_round
        case rel => exact ⟨k + 1, by omega, by go_num, HT'.out⟩
        case measure => simp [intOf]; omega
    · have hkn : k = n := by omega
      have HA := Lib.hid (show (xss.all fun xs => xs.all nearB) = true by have := HQ.out; rwa [hkn, List.take_of_length_le (by rw [HN.out]; exact Nat.le_refl _)] at this)
      clear hlt
      go_wp2
      go_ret
      exact ⟨by rw [HA.out]; rfl, rfl⟩

theorem sumTo_bd (xss : List (List Int)) (M : Nat) (h : ∀ xs ∈ xss, xs.length ≤ M) : ∀ k, k ≤ xss.length → sumTo xss k ≤ k * M
  | 0, _ => by simp [sumTo]
  | k + 1, hk => by
    rw [sumTo_succ _ _ (by omega)]
    have h1 := sumTo_bd xss M h k (by omega)
    have h2 : (xss.getD k []).length ≤ M := h _ (by simp [List.getD, show k < xss.length by omega])
    rw [Nat.add_mul]
    omega

set_option maxHeartbeats 1000000 in
theorem count_any (a : Option Addr) (cap : Nat) (xss : List (List Int)) (w : World) (hr : RowsAt w a cap xss) (hn : xss.length ≤ 60) (hlen : ∀ xs ∈ xss, xs.length ≤ 140737488355328) :
    Calls Tryz.prog 37 #[.slice a xss.length cap] w fun e w' => e = .returned (.int .i64 (sumTo xss xss.length)) ∧ w = w' := by
  obtain ⟨hc1, hc2, hr⟩ := hr
  unfold maxLen at hc2
  have HR := Lib.hid hr; clear hr
  have HBD := Lib.hid (sumTo_bd xss _ hlen)
  have HLEN := Lib.hid hlen; clear hlen
  generalize hN : xss.length = n at *
  have HN := Lib.hid hN; clear hN
  go_enter Tryz.func37, Tryz.ntmps37
  go_wp2_with fail
  go_loop [3, 4] (fun s i => ∃ k : Nat, k ≤ n ∧ i = .int .i64 k ∧ s = .int .i64 (sumTo xss k)) (fun _ i => n - (intOf i).toNat)
  case atStart => exact ⟨0, Nat.zero_le _, rfl, by simp [sumTo]⟩
  case round =>
    obtain ⟨k, hk, rfl, rfl⟩ := hrel
    by_cases hlt : k < n
    · obtain ⟨b, off, ha, hb, hc⟩ := HR.out.resolve_left (by omega)
      subst ha
      obtain ⟨v, g1, hv⟩ := hc k hlt
      clear hc
      have hkl : k < xss.length := by rw [HN.out]; exact hlt
      have HSU := Lib.hid (sumTo_succ xss k hkl)
      have hs1 := HBD.out k hk
      have hle : (xss.getD k []).length ≤ 140737488355328 := HLEN.out _ (by simp [List.getD, hkl])
      have hs2 : sumTo xss k ≤ 60 * 140737488355328 := Nat.le_trans hs1 (Nat.mul_le_mul_right _ (by omega))
      clear hkl hs1
      obtain ⟨av, cv, rfl, hrv⟩ := hv
      clear hrv
      generalize (xss.getD k []).length = m at *
      generalize hsk : sumTo xss k = sk at *
      go_wp2_with fail
      go_round
      case rel => exact ⟨k + 1, by omega, by go_num, by rw [HSU.out]; go_num⟩
      case measure => simp [intOf]; omega
    · have hkn : k = n := by omega
      clear hlt
      subst hkn
      go_wp2
      go_ret
      exact ⟨rfl, rfl⟩

/-- What the document's Check leaves. -/
def RefCheckPost (w : World) (vars : Int) (xss : List (List Int)) (e : Ending) (w' : World) : Prop :=
  ∃ c p k, e = .returned (faultV c p k) ∧ CheckF vars xss c p k ∧ Below w.heap.size w w'

set_option maxHeartbeats 4000000 in
theorem refCheck_any (vars : Int) (a : Option Addr) (cap : Nat) (xss : List (List Int)) (w : World) (hv1 : -9223372036854775808 ≤ vars) (hv2 : vars ≤ 9223372036854775807) (hr : RowsAt w a cap xss)
    (hint : ∀ xs ∈ xss, ∀ l ∈ xs, -9223372036854775807 ≤ l ∧ l ≤ 9223372036854775807) (hn : xss.length ≤ 60) (hlen : ∀ xs ∈ xss, xs.length ≤ 1000000) :
    Calls Tryz.prog 41 #[.agg #[.int .i64 vars, .slice a xss.length cap]] w (RefCheckPost w vars xss) := by
  obtain ⟨hc1, hc2, hr⟩ := hr
  unfold maxLen at hc2
  have HBD := Lib.hid (sumTo_bd xss _ hlen)
  have HR := Lib.hid hr; clear hr
  have HI := Lib.hid hint; clear hint
  have HLEN := Lib.hid hlen; clear hlen
  have HBA := Lib.hid (fun W => bare_any 102 W)
  have HPL := Lib.hid (fun k W => placed_any 104 k W (by omega))
  have HNO := Lib.hid none_any
  have hbw : Below w.heap.size w ((w.alloc (.cells #[.int .i64 vars, .slice a xss.length cap] 27)).alloc (.cells #[.int .i64 0, .bool false, .int .i64 0] 35)) := ((Below.refl _ w).alloc (Nat.le_refl _) _).alloc (by simp) _
  generalize hN : xss.length = n at *
  have HN := Lib.hid hN; clear hN
  go_enter Tryz.func41, Tryz.ntmps41
  go_wp2_with fail
  go_loop [3, 4] (fun s i => ∃ k : Nat, k ≤ n ∧ i = .int .i64 k ∧ s = .int .i64 (sumTo xss k)) (fun _ i => n - (intOf i).toNat)
  case atStart => exact ⟨0, Nat.zero_le _, rfl, by simp [sumTo]⟩
  case round =>
    obtain ⟨k, hk, rfl, rfl⟩ := hrel
    by_cases hlt : k < n
    · obtain ⟨b, off, ha, hb, hc⟩ := HR.out.resolve_left (by omega)
      subst ha
      obtain ⟨v, g1, hv⟩ := hc k hlt
      clear hc
      have hkl : k < xss.length := by rw [HN.out]; exact hlt
      have HSU := Lib.hid (sumTo_succ xss k hkl)
      have hs1 := HBD.out k hk
      have hle : (xss.getD k []).length ≤ 1000000 := HLEN.out _ (by simp [List.getD, hkl])
      have hs2 : sumTo xss k ≤ 60 * 1000000 := Nat.le_trans hs1 (Nat.mul_le_mul_right _ (by omega))
      clear hkl hs1
      obtain ⟨av, cv, rfl, hrv⟩ := hv
      clear hrv
      generalize (xss.getD k []).length = m at *
      generalize hsk : sumTo xss k = sk at *
      go_wp2_with fail
      go_round
      case rel => exact ⟨k + 1, by omega, by go_num, by rw [HSU.out]; go_num⟩
      case measure => simp [intOf]; omega
    · have hkn : k = n := by omega
      clear hlt
      subst hkn
      have hs2 : sumTo xss k ≤ 60 * 1000000 := Nat.le_trans (HBD.out k (Nat.le_refl _)) (Nat.mul_le_mul_right _ (by omega))
      generalize hsk : sumTo xss k = sk at *
      have HSK := Lib.hid hsk; clear hsk
      have HTM := Lib.hid (show tooMuch vars xss ↔ (vars < 0 ∨ 4000 < vars ∨ 20000 < k ∨ 80000 < sk) by unfold tooMuch; rw [HN.out, HSK.out])
      clear HBD
      have hd3 : decide (20000 < (k : Int)) = false := by simp; omega
      by_cases hvn : vars < 0
      · have HT := Lib.hid (HTM.out.2 (.inl hvn))
        go_wp2_with (go_at_call 63; refine (HBA.out _).mono ?_; rintro e w2 ⟨rfl, hb2⟩; obtain ⟨hc, hf⟩ := bcell hb2; unfold faultV)
        exact bodyPost_ret (v := .agg #[.int .i64 102, .bool false, .int .i64 0]) (by simp [results, Tryz.results41, go_sem, hc]) rfl ⟨102, false, 0, rfl, .inl ⟨HT.out, rfl, rfl, rfl⟩, (((hbw.trans (hb2.mono hbw.size)).setCell (by simp) _).setCell (by simp) _).setCell (by simp) _⟩
      have hd1 : decide (vars < 0) = false := by simpa using hvn
      by_cases hvp : 4000 < vars
      · have HT := Lib.hid (HTM.out.2 (.inr (.inl hvp)))
        have hd2 : decide (4000 < vars) = true := by simp [hvp]
        go_wp2_with (go_at_call 63; refine (HBA.out _).mono ?_; rintro e w2 ⟨rfl, hb2⟩; obtain ⟨hc, hf⟩ := bcell hb2; unfold faultV)
        exact bodyPost_ret (v := .agg #[.int .i64 102, .bool false, .int .i64 0]) (by simp [results, Tryz.results41, go_sem, hc]) rfl ⟨102, false, 0, rfl, .inl ⟨HT.out, rfl, rfl, rfl⟩, (((hbw.trans (hb2.mono hbw.size)).setCell (by simp) _).setCell (by simp) _).setCell (by simp) _⟩
      have hd2 : decide (4000 < vars) = false := by simpa using hvp
      by_cases hsp : 80000 < sk
      · have HT := Lib.hid (HTM.out.2 (.inr (.inr (.inr hsp))))
        have hd4 : decide (80000 < (sk : Int)) = true := by simp; omega
        go_wp2_with (go_at_call 63; refine (HBA.out _).mono ?_; rintro e w2 ⟨rfl, hb2⟩; obtain ⟨hc, hf⟩ := bcell hb2; unfold faultV)
        exact bodyPost_ret (v := .agg #[.int .i64 102, .bool false, .int .i64 0]) (by simp [results, Tryz.results41, go_sem, hc]) rfl ⟨102, false, 0, rfl, .inl ⟨HT.out, rfl, rfl, rfl⟩, (((hbw.trans (hb2.mono hbw.size)).setCell (by simp) _).setCell (by simp) _).setCell (by simp) _⟩
      have hd4 : decide (80000 < (sk : Int)) = false := by simp; omega
      have HNT := Lib.hid (show ¬ tooMuch vars xss from fun h => by have := HTM.out.1 h; omega)
      go_wp2_with fail
      clear hd1 hd2 hd4 hd3 hvn hvp hsp hs2 HTM
      go_loopw [5, 6] (fun i _ wr => ∃ q t : Nat, q ≤ k ∧ i = .int .i64 q ∧ wr = ((w.alloc (.cells #[.int .i64 vars, .slice a k cap] 27)).alloc (.cells #[.int .i64 0, .bool false, .int .i64 0] 35)).drewN t ∧ Hid (∀ j, j < q → ∀ l ∈ xss.getD j [], isB vars l = true)) (fun i _ _ => k - (intOf i).toNat)
      case atStart => exact ⟨0, 0, Nat.zero_le _, rfl, rfl, fun j hj => absurd hj (Nat.not_lt_zero _)⟩
      case round =>
        obtain ⟨q, t, hq, rfl, rfl, HQ⟩ := hrel
        by_cases hlt : q < k
        · obtain ⟨b, off, ha, hb, hc⟩ := HR.out.resolve_left (by omega)
          subst ha
          obtain ⟨v, g1, hv⟩ := hc q hlt
          clear hc
          have hkl : q < xss.length := by rw [HN.out]; exact hlt
          have hmem : xss.getD q [] ∈ xss := by simp [List.getD, hkl]
          have hle : (xss.getD q []).length ≤ 1000000 := HLEN.out _ hmem
          have HIK := Lib.hid (HI.out _ hmem)
          clear hmem
          generalize hys : xss.getD q [] = ys at *
          have HYS := Lib.hid hys; clear hys
          obtain ⟨av, cv, rfl, hrv1, hrv2, hrv⟩ := hv
          have HRV := Lib.hid hrv; clear hrv
          unfold maxLen at hrv2
          generalize hm : ys.length = m at *
          have HM := Lib.hid hm; clear hm
          have HKL := Lib.hid hkl; clear hkl
          go_wp2_with fail
          go_loopw [6] (fun i wr => ∃ j t : Nat, j ≤ m ∧ i = .int .i64 j ∧ wr = ((w.alloc (.cells #[.int .i64 vars, .slice (some ⟨b, off, none⟩) k cap] 27)).alloc (.cells #[.int .i64 0, .bool false, .int .i64 0] 35)).drewN t ∧ Hid (∀ i, i < j → isB vars (ys.getD i 0) = true)) (fun i _ => m - (intOf i).toNat)
          case atStart => exact ⟨0, t, Nat.zero_le _, rfl, rfl, fun j hj => absurd hj (Nat.not_lt_zero _)⟩
          case round =>
            obtain ⟨j, t2, hj, rfl, rfl, HP⟩ := hrel
            by_cases hjl : j < m
            · obtain ⟨b2, off2, ha2, hb2, hc2'⟩ := HRV.out.resolve_left (by omega)
              subst ha2
              have g2 : w.cell? ⟨b2, off2 + j, none⟩ = some (.int .i64 (ys.getD j 0)) := hc2' j hjl
              clear hc2'
              have hjy : j < ys.length := by rw [HM.out]; exact hjl
              have hmem2 : ys.getD j 0 ∈ ys := by simp [List.getD, hjy]
              obtain ⟨hl1, hl2⟩ := HIK.out _ hmem2
              have HME := Lib.hid hmem2; clear hmem2 hjy
              generalize hlj : ys.getD j 0 = l at *
              have HLJ := Lib.hid hlj; clear hlj
              have HIS := Lib.hid (fun W => refIs_any l vars W hl1 hl2 hv1 hv2)
              obtain ⟨r, hr⟩ : ∃ r, isB vars l = r := ⟨_, rfl⟩
              rw [hr] at HIS
              have HRR := Lib.hid hr; clear hr
              cases r with
              | true =>
                go_wp2_with fail
                go_quiet ((go_at_call 61; refine (HIS.out _).mono ?_; rintro e w' ⟨rfl, rfl⟩; exact ⟨rfl, _, rfl⟩))
                go_wp2
                go_roundw
                case rel =>
                  refine ⟨j + 1, _, by omega, by go_num, rfl, fun i hi => ?_⟩
                  by_cases e : i = j
                  · rw [e, HLJ.out]; exact HRR.out
                  · exact HP.out i (by omega)
                case measure => simp [intOf]; omega
              | false =>
                have HFB := Lib.hid (show firstBad vars xss q from ⟨HKL.out, HQ.out, l, by rw [HYS.out]; exact HME.out, HRR.out⟩)
                go_wp2_with fail
                go_quiet ((go_at_call 61; refine (HIS.out _).mono ?_; rintro e w' ⟨rfl, rfl⟩; exact ⟨rfl, _, rfl⟩))
                go_wp2_with (go_at_call 21; refine (HPL.out _ _).mono ?_; rintro e w2 ⟨rfl, hb2⟩; obtain ⟨hc, hf⟩ := bcell hb2; unfold faultV)
                exact bodyPost_ret (v := .agg #[.int .i64 104, .bool true, .int .i64 q]) (by simp [results, Tryz.results41, go_sem, hc]) rfl ⟨104, true, q, rfl, .inr (.inl ⟨HNT.out, q, HFB.out, rfl, rfl, rfl⟩), (((hbw.trans ((below_draws ⟨_, rfl⟩).trans hb2 |>.mono hbw.size)).setCell (by simp) _).setCell (by simp) _).setCell (by simp) _⟩
            · have hjm : j = m := by omega
              have HALL := Lib.hid (show ∀ j', j' < q + 1 → ∀ l ∈ xss.getD j' [], isB vars l = true from by
                intro j' hj' l hl
                by_cases e : j' = q
                · rw [e, HYS.out] at hl
                  obtain ⟨i, hi, rfl⟩ := List.getElem_of_mem hl
                  have := HP.out i (by rw [HM.out] at hi; omega)
                  simpa [List.getD, hi] using this
                · exact HQ.out j' (by omega) l hl)
              clear hjl
              go_wp2_with fail
              go_roundw
              case rel => exact ⟨q + 1, _, by omega, by go_num, rfl, HALL.out⟩
              case measure => simp [intOf]; omega
        · have hkn : q = k := by omega
          have HALL := Lib.hid (show allIs vars xss from by
            intro xs hxs l hl
            obtain ⟨i, hi, rfl⟩ := List.getElem_of_mem hxs
            exact HQ.out i (by rw [HN.out] at hi; omega) l (by simpa [List.getD, hi] using hl))
          clear hlt
          go_wp2_with (go_at_call 42; refine (HNO.out _).mono ?_; rintro e w2 ⟨rfl, hb2⟩; obtain ⟨hc, hf⟩ := bcell hb2; unfold faultV)
          exact bodyPost_ret (v := .agg #[.int .i64 0, .bool false, .int .i64 0]) (by simp [results, Tryz.results41, go_sem, hc]) rfl ⟨0, false, 0, rfl, .inr (.inr ⟨HNT.out, HALL.out, rfl, rfl, rfl⟩), (((hbw.trans ((below_draws ⟨_, rfl⟩).trans hb2 |>.mono hbw.size)).setCell (by simp) _).setCell (by simp) _).setCell (by simp) _⟩
end Go.Proofs.YtfoohdknjacenaaGreatDoor

namespace Go.Proofs.YtfoohdknjacenaaGreatDoor
open Go.RowKit

def lightB (bs : List Blk) (xss : List (List Int)) : Bool :=
  decide (bs.length ≤ 8) && (decide (xss.length ≤ 60) && ((xss.all fun xs => xs.all nearB) && (decide (sumTo xss xss.length ≤ 300) && bs.all fun b => decide (b.2.length ≤ 30) && b.2.all nearB)))
theorem all_take (bs : List Blk) (f : Blk → Bool) (k : Nat) (h : k < bs.length) : (bs.take (k + 1)).all f = ((bs.take k).all f && f (bs.getD k blk0)) := by
  rw [List.take_succ_eq_append_getElem h, List.all_append]; simp [List.getD, h]

set_option maxHeartbeats 4000000 in
theorem light_any (vars : Int) (q : Option Addr) (d : Nat) (bs : List Blk) (a : Option Addr) (c : Nat) (xss : List (List Int)) (w : World) (hq : BRowsAt w q d bs) (hr : RowsAt w a c xss) (hlen : ∀ xs ∈ xss, xs.length ≤ 140737488355328) :
    Calls Tryz.prog 11 #[.agg #[.slice q bs.length d, .int .i64 vars, .slice a xss.length c]] w fun e w' => e = .returned (.bool (lightB bs xss)) ∧ Below w.heap.size w w' := by
  have hbx : Below w.heap.size w (w.alloc (.cells #[.slice q bs.length d, .int .i64 vars, .slice a xss.length c] 29)) := (Below.refl _ w).alloc (Nat.le_refl _) _
  have HBX := Lib.hid hbx; clear hbx
  have HNA := Lib.hid (fun W (hW : Below w.heap.size w W) => nearAll_any a c xss W (hr.keep hW))
  have HCO := Lib.hid (fun W (hW : Below w.heap.size w W) (h : xss.length ≤ 60) => count_any a c xss W (hr.keep hW) h hlen)
  obtain ⟨hq1, hq2, hq3⟩ := hq
  unfold maxLen at hq2
  have HQ := Lib.hid hq3; clear hq3
  have HL := Lib.hid (show lightB bs xss = (decide (bs.length ≤ 8) && (decide (xss.length ≤ 60) && ((xss.all fun xs => xs.all nearB) && (decide (sumTo xss xss.length ≤ 300) && bs.all fun b => decide (b.2.length ≤ 30) && b.2.all nearB)))) from rfl)
  have HTK := Lib.hid (fun k (h : k < bs.length) => all_take bs (fun b => decide (b.2.length ≤ 30) && b.2.all nearB) k h)
  have HALL := Lib.hid (show bs.take bs.length = bs from List.take_length)
  have HBAD : Hid (∀ k, k < bs.length → (decide ((bs.getD k blk0).2.length ≤ 30) && (bs.getD k blk0).2.all nearB) = false → (bs.all fun b => decide (b.2.length ≤ 30) && b.2.all nearB) = false) := fun k hk h => by
    rw [List.all_eq_false]
    exact ⟨bs[k], List.getElem_mem hk, by rw [show bs[k] = bs.getD k blk0 by simp [List.getD, hk], h]; simp⟩
  generalize hB : bs.length = nb at *
  have HB := Lib.hid hB; clear hB
  by_cases h8 : nb ≤ 8
  · have h8b : decide ((8 : Int) < nb) = false := by simp; omega
    by_cases h60 : xss.length ≤ 60
    · have h60b : decide ((60 : Int) < xss.length) = false := by simp; omega
      have HCO' := Lib.hid (fun W hW => HCO.out W hW h60)
      clear HCO
      cases hna : (xss.all fun xs => xs.all nearB) with
      | false =>
        rw [hna] at HNA
        have HR := Lib.hid (show lightB bs xss = false by rw [HL.out, hna]; simp)
        clear HL hna HCO' HTK HBAD HALL
        rw [HR.out]
        generalize xss.length = n at *
        go_enter Tryz.func11, Tryz.ntmps11
        go_wp2_with (go_at_call 36; refine (HNA.out _ HBX.out).mono ?_; rintro e w' ⟨rfl, rfl⟩)
        (try go_ret)
        exact ⟨rfl, HBX.out⟩
      | true =>
        rw [hna] at HNA
        by_cases h300 : sumTo xss xss.length ≤ 300
        · have hs : decide ((300 : Int) < sumTo xss xss.length) = false := by simp; omega
          have HR := Lib.hid (show lightB bs xss = bs.all fun b => decide (b.2.length ≤ 30) && b.2.all nearB by rw [HL.out, hna]; simp [h8, h60, h300])
          rw [HR.out]
          clear HL hna HR h300
          generalize sumTo xss xss.length = sm at *
          generalize xss.length = n at *
          generalize hRR : (bs.all fun b => decide (b.2.length ≤ 30) && b.2.all nearB) = R at *
          have HRR := Lib.hid hRR; clear hRR
          go_enter Tryz.func11, Tryz.ntmps11
          go_wp2_with (first
            | (go_at_call 36; refine (HNA.out _ HBX.out).mono ?_; rintro e w' ⟨rfl, rfl⟩)
            | (go_at_call 37; refine (HCO'.out _ HBX.out).mono ?_; rintro e w' ⟨rfl, rfl⟩))
          go_loop [3] (fun i => ∃ k : Nat, k ≤ nb ∧ i = .int .i64 k ∧ Hid (((bs.take k).all fun b => decide (b.2.length ≤ 30) && b.2.all nearB) = true)) (fun i => nb - (intOf i).toNat)
          case atStart => exact ⟨0, Nat.zero_le _, rfl, by simp [Hid]⟩
          case round =>
            obtain ⟨k, hk, rfl, HQ2⟩ := hrel
            by_cases hlt : k < nb
            · obtain ⟨b, off, ha, hb, hc⟩ := HQ.out.resolve_left (by omega)
              subst ha
              obtain ⟨f0, v, f1, hv⟩ := hc k hlt
              have HBK := Lib.hid (HBAD.out k hlt)
              have HTT := Lib.hid (HTK.out k hlt)
              have HNE := Lib.hid (near_any v (bs.getD k blk0).2 _ (hv.keep HBX.out))
              clear hc f0
              obtain ⟨av, cv, rfl, _⟩ := hv
              generalize (bs.getD k blk0).2 = ys at *
              by_cases h30 : ys.length ≤ 30
              · have h30b : decide ((30 : Int) < ys.length) = false := by simp; omega
                cases hy : ys.all nearB with
                | false =>
                  have HE := Lib.hid (show R = false from HBK.out (by simp [hy]))
                  rw [hy] at HNE
                  clear HBK HTT hy h30
                  generalize ys.length = ml at *
                  go_wp2_with (go_at_call 38; refine HNE.out.mono ?_; rintro e w' ⟨rfl, rfl⟩)
                  (try go_ret)
                  exact ⟨by (rw [HE.out]; try rfl), HBX.out⟩
                | true =>
                  have HT2 := Lib.hid (show ((bs.take (k + 1)).all fun b => decide (b.2.length ≤ 30) && b.2.all nearB) = true by rw [HTT.out, HQ2.out]; simp [hy, h30])
                  rw [hy] at HNE
                  clear HBK HTT hy h30
                  generalize ys.length = ml at *
                  go_wp2_with (go_at_call 38; refine HNE.out.mono ?_; rintro e w' ⟨rfl, rfl⟩)
                  go_round
                  case rel => exact ⟨k + 1, by omega, by go_num, HT2.out⟩
                  case measure => simp [intOf]; omega
              · have h30b : decide ((30 : Int) < ys.length) = true := by simp; omega
                have HE := Lib.hid (show R = false from HBK.out (by simp [h30]))
                clear HBK HTT h30 HNE
                generalize ys.length = ml at *
                go_wp2_with fail
                (try go_ret)
                exact ⟨by (rw [HE.out]; try rfl), HBX.out⟩
            · have hkn : k = nb := by omega
              have HE := Lib.hid (show R = true by rw [← HRR.out]; have := HQ2.out; rwa [hkn, HALL.out] at this)
              clear HQ2
              go_wp2_with fail
              (try go_ret)
              exact ⟨by (rw [HE.out]; try rfl), HBX.out⟩
        · have hs : decide ((300 : Int) < sumTo xss xss.length) = true := by simp; omega
          have HR := Lib.hid (show lightB bs xss = false by rw [HL.out]; simp [h300])
          rw [HR.out]
          clear HL hna HR h300 HTK HBAD HALL
          generalize sumTo xss xss.length = sm at *
          generalize xss.length = n at *
          go_enter Tryz.func11, Tryz.ntmps11
          go_wp2_with (first
            | (go_at_call 36; refine (HNA.out _ HBX.out).mono ?_; rintro e w' ⟨rfl, rfl⟩)
            | (go_at_call 37; refine (HCO'.out _ HBX.out).mono ?_; rintro e w' ⟨rfl, rfl⟩))
          (try go_ret)
          exact ⟨rfl, HBX.out⟩
    · have h60b : decide ((60 : Int) < xss.length) = true := by simp; omega
      have HR := Lib.hid (show lightB bs xss = false by rw [HL.out]; simp [h60])
      rw [HR.out]
      clear HL HR HTK HBAD HALL HNA HCO h60
      generalize xss.length = n at *
      go_enter Tryz.func11, Tryz.ntmps11
      go_wp2_with fail
      (try go_ret)
      exact ⟨rfl, HBX.out⟩
  · have h8b : decide ((8 : Int) < nb) = true := by simp; omega
    have HR := Lib.hid (show lightB bs xss = false by rw [HL.out]; simp [h8])
    rw [HR.out]
    clear HL HR HTK HBAD HALL HNA HCO h8
    generalize xss.length = n at *
    go_enter Tryz.func11, Tryz.ntmps11
    go_wp2_with fail
    (try go_ret)
    exact ⟨rfl, HBX.out⟩
end Go.Proofs.YtfoohdknjacenaaGreatDoor

namespace Go.Proofs.YtfoohdknjacenaaGreatDoor

theorem sumTo_take (xss : List (List Int)) : ∀ k, k ≤ xss.length → sumTo xss k = ((xss.take k).map List.length).sum
  | 0, _ => by simp [sumTo]
  | k + 1, h => by
    rw [sumTo_succ _ _ (by omega), sumTo_take xss k (by omega), List.take_succ_eq_append_getElem (by omega), List.map_append, List.sum_append]
    simp [List.getD, show k < xss.length by omega]
theorem itoa_len4 (i : Int) (h1 : -10000 < i) (h2 : i < 10000) : (itoaL i).length ≤ 5 := by
  by_cases h : i < 0
  · rw [itoaL_neg h, List.length_cons]
    have := dec_len 3 i.natAbs (by omega)
    omega
  · rw [itoaL_pos h]
    have := dec_len 3 i.toNat (by omega)
    omega
theorem cls_len4 (xss : List (List Int)) (h : ∀ c ∈ xss, ∀ l ∈ c, -10000 < l ∧ l < 10000) : (xss.flatMap clsT).length ≤ 6 * (xss.map List.length).sum + 2 * xss.length := by
  have hl : ∀ c : List Int, (∀ l ∈ c, -10000 < l ∧ l < 10000) → (c.flatMap litT).length ≤ 6 * c.length := fun c => by
    induction c with
    | nil => intro _; simp
    | cons l c ih =>
      intro hc
      have h1 := ih (fun y hy => hc y (by simp [hy]))
      have h2 := itoa_len4 l (hc l (by simp)).1 (hc l (by simp)).2
      rw [List.flatMap_cons, List.length_append]
      unfold litT at h1 ⊢
      simp only [List.length_append, List.length_cons, List.length_nil] at h1 ⊢
      omega
  induction xss with
  | nil => simp
  | cons c xss ih =>
    have h1 := ih (fun d hd => h d (by simp [hd]))
    have h2 := hl c (h c (by simp))
    rw [List.flatMap_cons, List.length_append]
    have h3 : (clsT c).length = (c.flatMap litT).length + 2 := by unfold clsT; simp
    simp only [List.map_cons, List.sum_cons, List.length_cons]
    omega
theorem blks_len4 (bs : List Blk) (h : ∀ b ∈ bs, b.2.length ≤ 30 ∧ ∀ l ∈ b.2, -10000 < l ∧ l < 10000) : (bs.flatMap (blkT [32])).length ≤ 184 * bs.length := by
  have hl : ∀ c : List Int, (∀ l ∈ c, -10000 < l ∧ l < 10000) → (varsT [32] c).length ≤ 6 * c.length := fun c => by
    induction c with
    | nil => intro _; simp [varsT]
    | cons l c ih =>
      intro hc
      have h1 := ih (fun y hy => hc y (by simp [hy]))
      have h2 := itoa_len4 l (hc l (by simp)).1 (hc l (by simp)).2
      unfold varsT at h1 ⊢
      rw [List.flatMap_cons, List.length_append]
      simp only [List.length_append, List.length_cons, List.length_nil] at h1 ⊢
      omega
  induction bs with
  | nil => simp
  | cons b bs ih =>
    have h1 := ih (fun d hd => h d (by simp [hd]))
    have h2 := hl b.2 (h b (by simp)).2
    have h4 := (h b (by simp)).1
    rw [List.flatMap_cons, List.length_append]
    have h3 : (blkT [32] b).length = (varsT [32] b.2).length + 4 := by unfold blkT letL; split <;> simp <;> omega
    simp only [List.length_cons]
    omega
/-- What a light formula without a fault is. -/
structure FGood (vars : Int) (bs : List Blk) (xss : List (List Int)) : Prop where
  v0 : 0 ≤ vars
  v1 : vars ≤ 4000
  nb : bs.length ≤ 8
  nc : xss.length ≤ 60
  lb : ∀ b ∈ bs, ∀ l ∈ b.2, -10000 < l ∧ l < 10000
  lc : ∀ xs ∈ xss, ∀ l ∈ xs, -10000 < l ∧ l < 10000
  kc : ∀ xs ∈ xss, xs.length ≤ 300
  kb : ∀ b ∈ bs, b.2.length ≤ 30
  txt : (fTextL vars bs xss).length ≤ 4000
  rd : ∃ ws, readFL (fTextL vars bs xss) = (vars, bs, xss, ws, .ok)
theorem fgood {vars : Int} {bs : List Blk} {xss : List (List Int)} (hl : lightB bs xss = true) {p : Bool} {k : Int} (h : CheckFF vars bs xss 0 p k) : FGood vars bs xss := by
  unfold lightB at hl
  simp only [Bool.and_eq_true, decide_eq_true_eq] at hl
  obtain ⟨h1, h2, _, h4, h5⟩ := hl
  rcases h with ⟨h0, _⟩ | ⟨hC, hB⟩
  · exact absurd rfl h0
  have hb : blksBad vars 0 [] bs = none := by
    rcases hB with ⟨e, _⟩ | ⟨_, _, e, _⟩
    · exact e
    · exact absurd e (by omega)
  obtain ⟨hT, hA⟩ : ¬ tooMuch vars xss ∧ allIs vars xss := by
    rcases hC with ⟨_, e, _⟩ | ⟨_, _, _, e, _⟩ | ⟨e1, e2, _⟩
    · exact absurd e (by omega)
    · exact absurd e (by omega)
    · exact ⟨e1, e2⟩
  unfold tooMuch at hT
  obtain ⟨m, hm⟩ := bad_none vars bs 0 [] hb
  have hmet := (blksOk_met vars bs [] m hm).2
  have hlit : ∀ c ∈ xss, ∀ l ∈ c, (l ≠ 0 ∧ isF l vars = true) ∧ -10000 < l ∧ l < 10000 := fun c hc l hlc => by
    have h6 := hA c hc l hlc
    unfold isB absI at h6
    unfold isF
    simp only [Bool.and_eq_true, decide_eq_true_eq] at h6 ⊢
    split at h6 <;> omega
  have hk := List.all_eq_true.1 h5
  have hkb : ∀ b ∈ bs, b.2.length ≤ 30 := fun b hb' => by
    have := hk b hb'
    simp only [Bool.and_eq_true, decide_eq_true_eq] at this
    exact this.1
  have hlb : ∀ b ∈ bs, ∀ l ∈ b.2, -10000 < l ∧ l < 10000 := fun b hb' l hlc => by have := hmet b hb' l hlc; omega
  have hs := sumTo_take xss xss.length (Nat.le_refl _)
  rw [List.take_length] at hs
  refine ⟨by omega, by omega, h1, h2, hlb, fun c hc l hlc => (hlit c hc l hlc).2, fun c hc => ?_, hkb, ?_, fText_read vars bs xss m (by omega) (by omega) (by omega) hm (fun c hc l hlc => (hlit c hc l hlc).1)⟩
  · have : ∀ (L : List (List Int)) (c : List Int), c ∈ L → c.length ≤ (L.map List.length).sum := fun L => by
      induction L with
      | nil => intro c hc; cases hc
      | cons d L ih =>
        intro c hc
        simp only [List.map_cons, List.sum_cons]
        rcases List.mem_cons.1 hc with e | e
        · subst e; omega
        · have := ih c e; omega
    have := this xss c hc
    omega
  · have g1 := cls_len4 xss (fun c hc l hlc => (hlit c hc l hlc).2)
    have g2 := blks_len4 bs (fun b hb' => ⟨hkb b hb', hlb b hb'⟩)
    have g3 := itoa_len4 vars (by omega) (by omega)
    have g4 := itoa_len4 (xss.length : Int) (by omega) (by omega)
    unfold fTextL headT
    simp only [List.length_append, List.length_cons, List.length_nil]
    omega
end Go.Proofs.YtfoohdknjacenaaGreatDoor

namespace Go.Proofs.YtfoohdknjacenaaGreatDoor
open Go.RowKit

theorem two_bad {m u : Int} (h1 : 1 ≤ u) (h2 : u ≤ m) : blksBad m 0 [] [(true, [u]), (false, [u])] = some 1 := by
  simp [blksBad, varsOk, okV, h1, h2]
theorem plain_check {m u : Int} {xss : List (List Int)} (h1 : 1 ≤ u) (h2 : u ≤ m) (hm : m ≤ 4000) (hc : ∀ c ∈ xss, ∀ l ∈ c, l ≠ 0 ∧ isF l m = true) (hn : xss.length ≤ 20000) (hs : (xss.map List.length).sum ≤ 80000) : CheckFF m [(true, [u]), (false, [u])] xss 104 true 1 := by
  refine .inr ⟨.inr (.inr ⟨?_, ?_, rfl, rfl, rfl⟩), .inr ⟨1, two_bad h1 h2, rfl, rfl, rfl⟩⟩
  · unfold tooMuch
    have h3 := sumTo_take xss xss.length (Nat.le_refl _)
    rw [List.take_length] at h3
    omega
  · intro c h3 l h4
    obtain ⟨h5, h6⟩ := hc c h3 l h4
    unfold isF at h6
    unfold isB absI
    simp only [Bool.and_eq_true, decide_eq_true_eq] at h6 ⊢
    split <;> omega
theorem two_rows {W : World} {q x y : Nat} {u : Int} (h0 : W.cell? ⟨q, 0, none⟩ = some (.bool true)) (h1 : W.cell? ⟨q, 1, none⟩ = some (.slice (some ⟨x, 0, none⟩) 1 1)) (h2 : W.cell? ⟨q, 2, none⟩ = some (.bool false)) (h3 : W.cell? ⟨q, 3, none⟩ = some (.slice (some ⟨y, 0, none⟩) 1 1))
    (hx : W.cell? ⟨x, 0, none⟩ = some (.int .i64 u)) (hy : W.cell? ⟨y, 0, none⟩ = some (.int .i64 u)) : BRowsAt W (some ⟨q, 0, none⟩) 2 [(true, [u]), (false, [u])] := by
  have one : ∀ g, W.cell? ⟨g, 0, none⟩ = some (.int .i64 u) → Row W (.slice (some ⟨g, 0, none⟩) 1 1) [u] := fun g hg =>
    ⟨some ⟨g, 0, none⟩, 1, rfl, Nat.le_refl _, by unfold maxLen; omega, .inr ⟨g, 0, rfl, World.block_lt_of_cell? W _ hg, fun i hi => by
      obtain rfl : i = 0 := by simp at hi; omega
      simpa using hg⟩⟩
  refine ⟨Nat.le_refl _, by unfold maxLen; omega, .inr ⟨q, 0, rfl, World.block_lt_of_cell? W _ h0, fun i hi => ?_⟩⟩
  match i, hi with
  | 0, _ => exact ⟨h0, _, h1, one x hx⟩
  | 1, _ => exact ⟨h2, _, h3, one y hy⟩
/-- The world in which the law's two blocks lie. -/
theorem plain_world (w : World) (o : Obj) (u vn : Int) (s : Value) : ∃ W, W = ((((w.alloc o).alloc (.cells #[.int .i64 u] 3)).alloc (.cells #[.int .i64 u] 3)).alloc (.cells #[.bool true, .slice (some ⟨w.heap.size + 1, 0, none⟩) 1 1, .bool false, .slice (some ⟨w.heap.size + 1 + 1, 0, none⟩) 1 1] 51)).alloc (.cells #[.slice (some ⟨w.heap.size + 1 + 1 + 1, 0, none⟩) 2 2, .int .i64 vn, s] 29) ∧
    Below (w.alloc o).heap.size (w.alloc o) W ∧ BRowsAt W (some ⟨w.heap.size + 1 + 1 + 1, 0, none⟩) 2 [(true, [u]), (false, [u])] ∧ W.cell? ⟨w.heap.size + 1 + 1 + 1 + 1, 0, none⟩ = some (.slice (some ⟨w.heap.size + 1 + 1 + 1, 0, none⟩) 2 2) ∧ W.cell? ⟨w.heap.size + 1 + 1 + 1 + 1, 1, none⟩ = some (.int .i64 vn) ∧ W.cell? ⟨w.heap.size + 1 + 1 + 1 + 1, 2, none⟩ = some s := by
  refine ⟨_, rfl, ((((Below.refl _ (w.alloc o)).alloc (Nat.le_refl _) _).alloc (by simp) _).alloc (by simp <;> omega) _).alloc (by simp <;> omega) _, ?_, ?_, ?_, ?_⟩
  · refine two_rows (x := w.heap.size + 1) (y := w.heap.size + 1 + 1) ?_ ?_ ?_ ?_ ?_ ?_
    · rw [World.cell?_alloc_lt _ _ _ (by simp), World.cell?_alloc_at _ _ _ _ (by simp)]; rfl
    · rw [World.cell?_alloc_lt _ _ _ (by simp), World.cell?_alloc_at _ _ _ _ (by simp)]; rfl
    · rw [World.cell?_alloc_lt _ _ _ (by simp), World.cell?_alloc_at _ _ _ _ (by simp)]; rfl
    · rw [World.cell?_alloc_lt _ _ _ (by simp), World.cell?_alloc_at _ _ _ _ (by simp)]; rfl
    · rw [World.cell?_alloc_lt _ _ _ (by simp <;> omega), World.cell?_alloc_lt _ _ _ (by simp <;> omega), World.cell?_alloc_lt _ _ _ (by simp), World.cell?_alloc_at _ _ _ _ (by simp)]; rfl
    · rw [World.cell?_alloc_lt _ _ _ (by simp <;> omega), World.cell?_alloc_lt _ _ _ (by simp), World.cell?_alloc_at _ _ _ _ (by simp)]; rfl
  · rw [World.cell?_alloc_at _ _ _ _ (by simp)]; rfl
  · rw [World.cell?_alloc_at _ _ _ _ (by simp)]; rfl
  · rw [World.cell?_alloc_at _ _ _ _ (by simp)]; rfl
end Go.Proofs.YtfoohdknjacenaaGreatDoor

namespace Go.Proofs.YtfoohdknjacenaaGreatDoor
open Go.RowKit

theorem rowOf {w : World} {a : Option Addr} {len cap : Nat} {zs : List Int}
    (h : (a = none ∧ len = 0 ∧ cap = 0 ∧ zs = []) ∨ ∃ x, a = some x ∧ len ≤ cap ∧ cap ≤ maxLen ∧ zs.length = cap ∧ (∀ i, i < zs.length → w.cell? (x.add i) = some (.int .i64 (zs.getD i 0))) ∧ ∀ n ∈ zs, (Lit.int .i64 n).wf = true) :
    ∃ xs : List Int, xs.length = len ∧ RowAt w a cap xs ∧ ∀ y ∈ xs, -9223372036854775808 ≤ y ∧ y ≤ 9223372036854775807 := by
  rcases h with ⟨rfl, rfl, rfl, rfl⟩ | ⟨x, rfl, hl, hm, hz, hc, hw⟩
  · exact ⟨[], rfl, ⟨by simp, by unfold maxLen; omega, .inl rfl⟩, by simp⟩
  · refine ⟨zs.take len, by simp; omega, ⟨by simp; omega, hm, ?_⟩, fun y hy => bounds_i64 (hw y (List.mem_of_mem_take hy))⟩
    by_cases h0 : len = 0
    · left; simp [h0]
    · right
      obtain ⟨b, off, spot⟩ := x
      have h1 := hc 0 (by omega)
      have hs : spot = none := by simpa [Addr.add] using World.cell?_spot h1
      subst hs
      refine ⟨b, off, rfl, World.block_lt_of_cell? w _ h1, fun i hi => ?_⟩
      have hi' : i < len := by simp at hi; omega
      have h2 := hc i (by omega)
      have he : (⟨b, off, none⟩ : Addr).add i = ⟨b, off + i, none⟩ := by
        by_cases e : i = 0
        · subst e; rfl
        · simp [Addr.add, e]
      rw [he] at h2
      rw [h2]
      simp [List.getD, hi']
end Go.Proofs.YtfoohdknjacenaaGreatDoor

namespace Go.Proofs.YtfoohdknjacenaaGreatDoor
open Go.RowKit Go.ChangeShapes Go.WideShapes Go.ChangeAt Go.Deep Go.Joins

theorem cellsInt : Tryz.prog.cellsOf 3 = 1 := by kernel_rfl
theorem cellsInts : Tryz.prog.cellsOf 46 = 1 := by kernel_rfl
theorem bytesInt : Tryz.prog.bytesOf 3 = 8 := by kernel_rfl

set_option maxRecDepth 100000 in
theorem open_row {H : Type} {enc : TypeId × Value → H} {W : World} {base : Nat} {v : Value} {d : DataW H} {p : List MemPlace} (hv : Value.okWide Tryz.prog W .any base 46 v) (h : DataW.Trod enc Tryz.prog W 0 (fun _ => true) true 46 v d p) :
    ∃ a cap xs, v = .slice a (List.length xs) cap ∧ RowAt W a cap xs ∧ ∀ y ∈ xs, -9223372036854775808 ≤ y ∧ y ≤ 9223372036854775807 := by
  obtain ⟨a0, len0, cap0, rfl⟩ := okWide_slice Tryz.underlying46 hv
  obtain ⟨fuel, hf⟩ := h
  rcases open_ints Tryz.underlying46 Tryz.underlying3 cellsInt hf with ⟨hcs, _⟩ | ⟨x, l, c, zs, hcs, _, hl, hm, hz, _, hcell, hwz⟩
  · simp [Value.cells] at hcs
    obtain ⟨rfl, rfl, rfl⟩ := hcs
    exact ⟨none, 0, [], rfl, ⟨Nat.le_refl _, by unfold maxLen; omega, .inl rfl⟩, by simp⟩
  · simp [Value.cells] at hcs
    obtain ⟨rfl, rfl, rfl⟩ := hcs
    obtain ⟨xs, hx, hr, hb⟩ := rowOf (.inr ⟨x, rfl, hl, hm, by simpa using hz, hcell, hwz⟩)
    exact ⟨some x, cap0, xs, by rw [hx], hr, hb⟩

theorem weightsAll_mem' {H : Type} {P : Program} {e : TypeId} : ∀ {l : List (DataW H)} {d : DataW H}, d ∈ l → ∀ n ∈ d.weights P e, n ∈ DataW.weightsAll P e l
  | d' :: r, d, hd, n, hn => by
    simp only [DataW.weightsAll, List.mem_append]
    rcases List.mem_cons.1 hd with rfl | h
    · exact Or.inl hn
    · exact Or.inr (weightsAll_mem' h n hn)

theorem open_rows {H : Type} {enc : TypeId × Value → H} {W : World} {n : Nat} {v : Value} {y : DataW H × List MemPlace} (h : DataW.trod enc Tryz.prog W 0 (fun _ => true) true n 25 [v] = some y) :
    ∃ a cap xss, v = .slice a (List.length xss) cap ∧ RowsAt W a cap xss ∧ (∀ xs ∈ xss, ∀ z ∈ xs, -9223372036854775808 ≤ z ∧ z ≤ 9223372036854775807) ∧
      ((∀ m ∈ y.1.weights Tryz.prog 25, m ≤ reachBytes) → ∀ xs ∈ xss, xs.length ≤ 140737488355328) := by
  rcases open_int_rows Tryz.underlying25 Tryz.underlying46 Tryz.underlying3 cellsInts cellsInt h with ⟨hcs, _⟩ | ⟨a, len, cap, Af, L, C, Z, hcs, _, hl, hm, hx, hr⟩
  · simp at hcs
    subst hcs
    exact ⟨none, 0, [], rfl, ⟨Nat.le_refl _, by unfold maxLen; omega, .inl rfl⟩, by simp, by simp⟩
  · simp at hcs
    subst hcs
    have hgt : ∀ i, i < len → (((List.range len).map fun r => (Z r).take (L r)).getD i []) = (Z i).take (L i) := fun i hi => by simp [List.getD, hi]
    refine ⟨some a, cap, (List.range len).map fun r => (Z r).take (L r), by simp, ⟨by simpa using hl, hm, ?_⟩, ?_, ?_⟩
    · rcases Nat.eq_zero_or_pos len with h0 | h0
      · left; simp [h0]
      · right
        obtain ⟨b, off, spot⟩ := a
        have h1 := (hr 0 (by omega)).1
        have hs : spot = none := by simpa [Addr.add] using World.cell?_spot h1
        subst hs
        have he : ∀ (b off i : Nat), (⟨b, off, none⟩ : Addr).add i = ⟨b, off + i, none⟩ := fun b off i => by
          by_cases e : i = 0
          · subst e; rfl
          · simp [Addr.add, e]
        refine ⟨b, off, rfl, World.block_lt_of_cell? W _ h1, fun i hi => ?_⟩
        have hi' : i < len := by simpa using hi
        obtain ⟨c1, c2, c3, c4, c5, c6, c7⟩ := hr i (by omega)
        rw [he] at c1
        refine ⟨_, c1, ?_⟩
        rw [hgt i hi']
        have hlen : ((Z i).take (L i)).length = L i := by simp; omega
        refine ⟨Af i, C i, by rw [hlen], by omega, c3, ?_⟩
        cases ha : Af i with
        | none => left; have := c6 ha; omega
        | some a' =>
          by_cases hz : L i = 0
          · left; omega
          · right
            obtain ⟨_, c8⟩ := c7 a' ha
            obtain ⟨b', off', spot'⟩ := a'
            have h2 := c8 0 (by omega)
            have hs : spot' = none := by simpa [Addr.add] using World.cell?_spot h2
            subst hs
            refine ⟨b', off', rfl, World.block_lt_of_cell? W _ h2, fun j hj => ?_⟩
            have hj' : j < L i := by omega
            have h3 := c8 j (by omega)
            rw [he] at h3
            rw [h3]
            simp [List.getD, hj']
    · intro xs hxs z hz
      obtain ⟨r, hr', rfl⟩ := List.mem_map.1 hxs
      have hrl : r < len := by simpa using hr'
      obtain ⟨_, _, _, _, c5, _⟩ := hr r (by omega)
      exact bounds_i64 (c5 z (List.mem_of_mem_take hz))
    · intro hw xs hxs
      obtain ⟨r, hr', rfl⟩ := List.mem_map.1 hxs
      have hrl : r < len := by simpa using hr'
      obtain ⟨_, c2, _, c4, _, c6, _⟩ := hr r (by omega)
      have hle : ((Z r).take (L r)).length = L r := by simp; omega
      rw [hle]
      cases ha : Af r with
      | none => have := c6 ha; omega
      | some a' =>
        have hmem : (L r + (C r - L r)) * 8 ∈ y.1.weights Tryz.prog 25 := by
          rw [hx]
          simp only [DataW.weights, Tryz.underlying25, List.mem_cons, List.mem_append]
          refine .inr (.inl (weightsAll_mem' (d := intRow .i64 (Af r) (L r) (Z r)) (List.mem_map.2 ⟨r, by simpa using hrl, rfl⟩) _ ?_))
          rw [ha]
          simp [intRow, DataW.weights, Tryz.underlying46, bytesInt, lits]
          left
          omega
        have := hw _ hmem
        have hrb : reachBytes = 140737488351232 := rfl
        omega

/-- The weights of a formula's clauses are among the formula's. -/
theorem cnf_weights {H : Type} {x y : DataW H} {m : Nat} (h : m ∈ y.weights Tryz.prog 25) : m ∈ (DataW.agg [x, y]).weights Tryz.prog 27 := by
  simp only [DataW.weights, Tryz.underlying27]
  simpa [DataW.weightsEach] using Or.inr h
end Go.Proofs.YtfoohdknjacenaaGreatDoor
