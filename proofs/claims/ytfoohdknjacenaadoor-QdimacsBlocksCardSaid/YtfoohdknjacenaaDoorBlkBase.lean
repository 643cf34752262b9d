/- What the laws of chapter 5 share: 'first' answers true. Conditions: the errors and the table of powers of ten lie as the program lays them. · Contracts of skolemref.SameBytes and skolemref.SameBools. Conditions: the slices read as the lists named ('RowG'). · Contracts of skolemref.SameClauses and SameCNF at the same lists: true. Conditions: both slices read as these clauses. · Contracts of the document's own skolemref.SameBlock, SameBlocks, SameFormula at the same blocks and clauses: true. Conditions: both sides read as these. · Blocks, the variables met and the block at hand while they are made: rows of the call's own in blocks of their own, beside a block X that is written. No conditions beyond those typed. · The contract of skolemworld.Number; appends of a string onto a row of bytes that is the call's own, or the bytes of a constant. Conditions: those typed. · The contract of skolemref.Bytes: a copy. Conditions: the slice reads as bytes, and is not too long. · The contract of skolemmake.Near: whether all ints of the slice are at least -2^60. Conditions: the slice reads as the list named. · Plain facts: blocks whose variables rise by one; their text with whatever gaps, and what it tells, alone and with a wrong block behind. Nothing of the program. · From the way in which an argument is handed over (a row of ints in memory) to 'RowAt'. No conditions beyond those typed. · From the way in which an argument is handed over (a row of ints, a slice of such rows) to 'RowAt', 'RowsAt', with the rows' bounds and the reach. No conditions beyond those typed. · From the way in which an argument is handed over to 'RowG': slices of bytes, slices of bools. No conditions beyond those typed. -/
import Derived.Test.YtfoohdknjacenaaDoorBlkB
import Derived.Test.YtfoohdknjacenaaDoorReadF
import Derived.Test.YtfoohdknjacenaaDoorSee
import Derived.Test.YtfoohdknjacenaaDoorFault
import Derived.Test.YtfoohdknjacenaaDoorBits
import Derived.Deep.QuietTactic
import Derived.BigQuiet
import Derived.RegionTactic
import Derived.WalkSmall
import Derived.Deep.Draws
import Derived.Test.YtfoohdknjacenaaDoorClIG
import Derived.Test.YtfoohdknjacenaaDoorRead
import Derived.Deep.RegionWith
import Derived.Test.YtfoohdknjacenaaDoorBlkM
import Derived.Test.YtfoohdknjacenaaDoorAppI
import Derived.Test.YtfoohdknjacenaaDoorBytesD
import Derived.Test.YtfoohdknjacenaaDoorAppStr
import Derived.Test.YtfoohdknjacenaaDoorBase
import Derived.Test.YtfoohdknjacenaaDoorChecked
import Derived.Lib.Hide
import Derived.Test.YtfoohdknjacenaaDoorFormP
import Derived.OpenShut
import Derived.Test.YtfoohdknjacenaaDoorCheckP
import Derived.Test.YtfoohdknjacenaaDoorRows
import Derived.Deep.Matrix
import Derived.SizedLaws
import Derived.Lib.SmallJoins
import Derived.Test.YtfoohdknjacenaaDoorGen
import Derived.Test.YtfoohdknjacenaaDoorStr
import Derived.Deep.Grids
namespace Go.Proofs.YtfoohdknjacenaaDoor
open Go.RowKit

theorem readF_nil : readFL [] = (0, [], [], [], .text 0) := by
  have hw : wordsL true [] = [] := splitL_nil _ _ _ _
  have hh : headL [] = (0, 0, .text 0) := by unfold headL; rw [if_pos (fun h => absurd h.1 (by simp))]
  unfold readFL
  rw [hw, hh]
  rfl
theorem fText_pos (v : Int) (bs : List Blk) (xss : List (List Int)) : 0 < (fTextL v bs xss).length := by
  unfold fTextL headT
  simp
theorem itoa0 : itoaL 0 = [48] := by rw [itoaL_pos (by omega)]; exact decL_small (by decide)
theorem fText_zero : (fTextL 0 [] []).length ≤ 10000 := by
  unfold fTextL headT
  rw [List.length_nil, show ((0 : Nat) : Int) = 0 from rfl, itoa0]
  decide

set_option maxHeartbeats 1000000 in
theorem first5_any (A : Nat → Addr) (w : World) (hS : Sents8 w A) (ht : Tabs w) : Calls Tryd.prog 4 #[] w fun e w' => e = .returned (.bool true) ∧ Below w.heap.size w w' := by
  have HR := Lib.hid (readF_any A (.slice none 0 0) [] w hS (RowG.nil _ _ _) Bts.nil (by simp))
  rw [readF_nil] at HR
  have HP := Lib.hid (fun W => placed_any 101 0 W (by omega))
  have HY := Lib.hid (fun ev W (h : ErrAs W ev 101 true 0) => see_yes ev 101 true 0 W h)
  have HSS := Lib.hid (fun W (hW : Below w.heap.size w W) => (hS.keep hW).toSents)
  have HBY : Hid (∀ W, Below w.heap.size w W → Calls Tryd.prog 12 #[.agg #[.slice none 0 0, .int .i64 0, .slice none 0 0]] W fun e w' => (∃ a k c, e = .returned (.slice a k c) ∧ 0 < k) ∧ Below W.heap.size W w') := fun W hW => by
    refine (bytesF_any 0 none 0 [] none 0 [] W (by omega) (BRowsAt.nil W) ⟨Nat.le_refl _, by unfold maxLen; omega, .inl rfl⟩ (by simp) (by simp) fText_zero (by simp) (by simp) (ht.keep hW)).mono ?_
    rintro e w' ⟨⟨v, rfl, ho⟩, hb⟩
    obtain ⟨a, k, c, rfl, hk, _⟩ := bopen ho
    exact ⟨⟨a, k, c, rfl, by rw [hk]; exact fText_pos _ _ _⟩, hb⟩
  unfold RFPost at HR
  clear hS ht
  go_enter Tryd.func4, Tryd.ntmps4
  go_wp2_with (first
    | (go_at_call 6; refine HR.out.mono ?_; rintro e w1 ⟨⟨bv, cv, ov, rfl, hB, hC, hO⟩, hb1⟩; obtain ⟨a8, c8, rfl, _⟩ := hB.rows; obtain ⟨a9, c9, rfl, _⟩ := hC.rows; have hs1 := hb1.size; have hE := hO.err (HSS.out _ hb1))
    | (go_at_call 10; refine (HP.out _).mono ?_; rintro e w2 ⟨rfl, hb2⟩; have hq : Below w1.heap.size w1 w2 := ((Below.refl _ w1).alloc (Nat.le_refl _) _).trans (hb2.mono (by simp)))
    | (go_at_call 9; refine (HY.out _ _ (hE.keep hq)).mono ?_; rintro e w3 ⟨rfl, hb3⟩; have hq3 := hb1.trans ((hq.trans (hb3.mono hq.size)).mono hs1))
    | (go_at_call 12; refine (HBY.out _ hq3).mono ?_; rintro e w4 ⟨⟨a7, k7, c7, rfl, hk7⟩, hb4⟩; have hk8 : (0 : Int) < k7 := (by omega)))
  (try go_ret)
  exact ⟨rfl, hq3.trans (hb4.mono hq3.size)⟩
end Go.Proofs.YtfoohdknjacenaaDoor

namespace Go.Proofs.YtfoohdknjacenaaDoor
open Go.RowKit

theorem below_drawsG {w w' : World} (h : ∃ n, w' = w.drewN n) : Below w.heap.size w w' := by
  obtain ⟨n, rfl⟩ := h
  exact below_drewN (Below.refl _ _) n

end Go.Proofs.YtfoohdknjacenaaDoor

namespace Go.Proofs.YtfoohdknjacenaaDoor
open Go.RowKit

set_option maxHeartbeats 2000000 in
theorem sameClauses_yes (a a' : Option Addr) (c c' : Nat) (xss : List (List Int)) (w : World) (hv : RowsAt w a c xss) (hu : RowsAt w a' c' xss) :
    Calls Tryd.prog 35 #[.slice a xss.length c, .slice a' xss.length c'] w fun e w' => e = .returned (.bool true) ∧ Below w.heap.size w w' := by
  obtain ⟨h1, h2, h3⟩ := hv
  obtain ⟨h4, h5, h6⟩ := hu
  unfold maxLen at h2 h5
  have h1c : ((xss.length : Int) != xss.length) = false := by simp
  have HV := Lib.hid h3; clear h3
  have HU := Lib.hid h6; clear h6
  generalize hn : xss.length = n at *
  clear hn
  go_enter Tryd.func35, Tryd.ntmps35
  go_wp2_with fail
  go_loopw [5] (fun i wr => ∃ k : Nat, k ≤ n ∧ i = .int .i64 k ∧ Below w.heap.size w wr) (fun i _ => n - (intOf i).toNat)
  case atStart => exact ⟨0, Nat.zero_le _, rfl, Below.refl _ _⟩
  case round =>
    obtain ⟨k, hk, rfl, hbr⟩ := hrel
    by_cases hlt : k < n
    · obtain ⟨b, off, e1, hb, hc⟩ := HV.out.resolve_left (by omega)
      obtain ⟨b', off', e2, hb', hc'⟩ := HU.out.resolve_left (by omega)
      subst e1; subst e2
      obtain ⟨v, g1, r1⟩ := hc k hlt
      obtain ⟨u, g2, r2⟩ := hc' k hlt
      have g1' := (hbr.cell (p := ⟨b, off + k, none⟩) hb).trans g1
      have g2' := (hbr.cell (p := ⟨b', off' + k, none⟩) hb').trans g2
      have HS := Lib.hid (fun W (hW : Below w.heap.size w W) => sameInts_any v u _ _ W (r1.keep hW) (r2.keep hW))
      obtain ⟨av, cv, rfl, _⟩ := r1
      obtain ⟨au, cu, rfl, _⟩ := r2
      have hkc : (k : Int) < n := by omega
      clear g1 g2 hc hc'
      generalize (xss.getD k []) = ys at *
      generalize ys.length = m at *
      have hd : decide (ys = ys) = true := by simp
      rw [hd] at HS
      clear hd
      go_wp2_with fail
      go_region_with (go_at_call 52; refine (HS.out _ (by first | exact hbr | exact hbr.drew | exact below_drewN hbr _)).mono ?_; rintro e w2 ⟨rfl, hw2⟩; have hb2 := (show Below w.heap.size w _ by first | exact hbr.drew | exact hbr).trans ((below_draws hw2).mono (by have := hbr.size; simpa using this)))
      all_goals
        clear hw2
        go_wp2_with fail
      all_goals exact ⟨⟨k + 1, by omega, by go_num, hb2⟩, by simp [intOf]; omega⟩
    · have hkn : k = n := by omega
      subst hkn
      go_wp2_with fail
      go_ret
      exact ⟨rfl, hbr⟩

set_option maxHeartbeats 1000000 in
theorem sameCNF_yes (vars : Int) (a a' : Option Addr) (c c' : Nat) (xss : List (List Int)) (w : World) (hv : RowsAt w a c xss) (hu : RowsAt w a' c' xss) :
    Calls Tryd.prog 19 #[.agg #[.int .i64 vars, .slice a xss.length c], .agg #[.int .i64 vars, .slice a' xss.length c']] w fun e w' => e = .returned (.bool true) ∧ Below w.heap.size w w' := by
  have HS := Lib.hid (fun W (hW : Below w.heap.size w W) => sameClauses_yes a a' c c' xss W (hv.keep hW) (hu.keep hW))
  have HB := Lib.hid (fun o1 o2 => show Below w.heap.size w ((w.alloc o1).alloc o2) from ((Below.refl _ w).alloc (Nat.le_refl _) _).alloc (by simp) _)
  have hvv : (vars == vars) = true := by simp
  clear hv hu
  generalize xss.length = n at *
  go_enter Tryd.func19, Tryd.ntmps19
  go_wp2_with (go_at_call 35; refine (HS.out _ (HB.out _ _)).mono ?_; rintro e w2 ⟨rfl, hb2⟩)
  go_ret
  exact ⟨rfl, (HB.out _ _).trans (hb2.mono (by simp; omega))⟩
end Go.Proofs.YtfoohdknjacenaaDoor

namespace Go.Proofs.YtfoohdknjacenaaDoor
open Go.RowKit

set_option maxHeartbeats 2000000 in
theorem sameBlock_yes (e : Bool) (v u : Value) (l : List Int) (w : World) (hv : Row w v l) (hu : Row w u l) :
    Calls Tryd.prog 34 #[.agg #[.bool e, v], .agg #[.bool e, u]] w fun r w' => r = .returned (.bool true) ∧ Below w.heap.size w w' := by
  have HB := Lib.hid (fun o1 o2 => show Below w.heap.size w ((w.alloc o1).alloc o2) from ((Below.refl _ w).alloc (Nat.le_refl _) _).alloc (by simp) _)
  have HS := Lib.hid (fun W (hW : Below w.heap.size w W) => sameInts_any v u l l W (hv.keep hW) (hu.keep hW))
  obtain ⟨av, cv, rfl, _⟩ := hv
  obtain ⟨au, cu, rfl, _⟩ := hu
  have hd : decide (l = l) = true := by simp
  rw [hd] at HS
  clear hd
  have hee : (e == e) = true := by simp
  generalize l.length = n at *
  go_enter Tryd.func34, Tryd.ntmps34
  go_wp2_with (go_at_call 52; refine (HS.out _ (HB.out _ _)).mono ?_; rintro e2 w2 ⟨rfl, hw2⟩)
  go_ret
  exact ⟨rfl, (HB.out _ _).trans ((below_draws hw2).mono (by simp; omega))⟩

set_option maxHeartbeats 2000000 in
theorem sameBlocks_yes (a a' : Option Addr) (c c' : Nat) (bs : List Blk) (w : World) (hv : BRowsAt w a c bs) (hu : BRowsAt w a' c' bs) :
    Calls Tryd.prog 18 #[.slice a bs.length c, .slice a' bs.length c'] w fun e w' => e = .returned (.bool true) ∧ Below w.heap.size w w' := by
  obtain ⟨h1, h2, h3⟩ := hv
  obtain ⟨h4, h5, h6⟩ := hu
  unfold maxLen at h2 h5
  have h1c : ((bs.length : Int) != bs.length) = false := by simp
  have HV := Lib.hid h3; clear h3
  have HU := Lib.hid h6; clear h6
  generalize hn : bs.length = n at *
  clear hn
  go_enter Tryd.func18, Tryd.ntmps18
  go_wp2_with fail
  go_loopw [5] (fun i wr => ∃ k : Nat, k ≤ n ∧ i = .int .i64 k ∧ Below w.heap.size w wr) (fun i _ => n - (intOf i).toNat)
  case atStart => exact ⟨0, Nat.zero_le _, rfl, Below.refl _ _⟩
  case round =>
    obtain ⟨k, hk, rfl, hbr⟩ := hrel
    by_cases hlt : k < n
    · obtain ⟨b, off, e1, hb, hc⟩ := HV.out.resolve_left (by omega)
      obtain ⟨b', off', e2, hb', hc'⟩ := HU.out.resolve_left (by omega)
      subst e1; subst e2
      obtain ⟨q1, v, g1, r1⟩ := hc k hlt
      obtain ⟨q2, u, g2, r2⟩ := hc' k hlt
      have q1' := (hbr.cell (p := ⟨b, off + k * 2, none⟩) hb).trans q1
      have q2' := (hbr.cell (p := ⟨b', off' + k * 2, none⟩) hb').trans q2
      have g1' := (hbr.cell (p := ⟨b, off + k * 2 + 1, none⟩) hb).trans g1
      have g2' := (hbr.cell (p := ⟨b', off' + k * 2 + 1, none⟩) hb').trans g2
      have HS := Lib.hid (fun W (hW : Below w.heap.size w W) => sameBlock_yes (bs.getD k blk0).1 v u _ W (r1.keep hW) (r2.keep hW))
      obtain ⟨av, cv, rfl, _⟩ := r1
      obtain ⟨au, cu, rfl, _⟩ := r2
      have hkc : (k : Int) < n := by omega
      clear q1 q2 g1 g2 hc hc'
      generalize (bs.getD k blk0).2 = ys at *
      generalize (bs.getD k blk0).1 = ex at *
      generalize ys.length = m at *
      go_wp2_with fail
      go_region_with (go_at_call 34; refine (HS.out _ (by first | exact hbr | exact hbr.drew | exact below_drewN hbr _)).mono ?_; rintro e w2 ⟨rfl, hw2⟩; have hb2 := (show Below w.heap.size w _ by first | exact hbr.drew | exact hbr).trans (hw2.mono (by have := hbr.size; simpa using this)))
      all_goals
        clear hw2
        go_wp2_with fail
      all_goals exact ⟨⟨k + 1, by omega, by go_num, hb2⟩, by simp [intOf]; omega⟩
    · have hkn : k = n := by omega
      subst hkn
      go_wp2_with fail
      go_ret
      exact ⟨rfl, hbr⟩

set_option maxHeartbeats 1000000 in
theorem sameFormula_yes (vars : Int) (q q' : Option Addr) (d d' : Nat) (bs : List Blk) (a a' : Option Addr) (c c' : Nat) (xss : List (List Int)) (w : World) (hb : BRowsAt w q d bs) (hb' : BRowsAt w q' d' bs) (hv : RowsAt w a c xss) (hu : RowsAt w a' c' xss) :
    Calls Tryd.prog 8 #[.agg #[.slice q bs.length d, .int .i64 vars, .slice a xss.length c], .agg #[.slice q' bs.length d', .int .i64 vars, .slice a' xss.length c']] w fun e w' => e = .returned (.bool true) ∧ Below w.heap.size w w' := by
  have HS := Lib.hid (fun W (hW : Below w.heap.size w W) => sameCNF_yes vars a a' c c' xss W (hv.keep hW) (hu.keep hW))
  have HT := Lib.hid (fun W (hW : Below w.heap.size w W) => sameBlocks_yes q q' d d' bs W (hb.keep hW) (hb'.keep hW))
  have HB := Lib.hid (fun o1 o2 => show Below w.heap.size w ((w.alloc o1).alloc o2) from ((Below.refl _ w).alloc (Nat.le_refl _) _).alloc (by simp) _)
  have HC1 : Hid (∀ (W : World) (x y z x' y' z' : Value) (T : TypeId), Below ((w.alloc (.cells #[x, y, z] T)).alloc (.cells #[x', y', z'] T)).heap.size ((w.alloc (.cells #[x, y, z] T)).alloc (.cells #[x', y', z'] T)) W → W.cell? ⟨w.heap.size, 1, none⟩ = some y ∧ W.cell? ⟨w.heap.size, 2, none⟩ = some z ∧ W.cell? ⟨w.heap.size + 1, 1, none⟩ = some y' ∧ W.cell? ⟨w.heap.size + 1, 2, none⟩ = some z') := fun W x y z x' y' z' T h => by
    have h1 := cells3 w W x y z T (((Below.refl _ _).alloc (Nat.le_refl _) _).trans (h.mono (by simp)))
    have h2 := cells3 (w.alloc (.cells #[x, y, z] T)) W x' y' z' T h
    rw [show (w.alloc (.cells #[x, y, z] T)).heap.size = w.heap.size + 1 by simp] at h2
    exact ⟨h1.2.1, h1.2.2, h2.2.1, h2.2.2⟩
  clear hv hu hb hb'
  generalize xss.length = n at *
  generalize bs.length = m at *
  go_enter Tryd.func8, Tryd.ntmps8
  go_wp2_with (first
    | (go_at_call 18; refine (HT.out _ (HB.out _ _)).mono ?_; rintro e w1 ⟨rfl, hb1⟩; have hbw1 := (HB.out _ _).trans (hb1.mono (by simp; omega)); obtain ⟨g1, g2, g3, g4⟩ := HC1.out _ _ _ _ _ _ _ _ hb1)
    | (go_at_call 19; refine (HS.out _ hbw1).mono ?_; rintro e w2 ⟨rfl, hb2⟩))
  go_ret
  exact ⟨rfl, hbw1.trans (hb2.mono hbw1.size)⟩
end Go.Proofs.YtfoohdknjacenaaDoor

namespace Go.Proofs.YtfoohdknjacenaaDoor
open Go.RowKit

structure FmG (w : World) (B X : Nat) (o s x : Value) (bs : List Blk) (fl : List Value) (met cur : List Int) : Prop where
  xlt : X < w.heap.size
  out : w.ownsRow B 32 2 o bs.length fl
  each : ∀ j, j < bs.length → fl[j * 2]? = some (.bool (bs.getD j blk0).1) ∧ ∃ v, fl[j * 2 + 1]? = some v ∧ w.ownsRow B 3 1 v (bs.getD j blk0).2.length ((bs.getD j blk0).2.map (Value.int .i64)) ∧ ∀ g, v.ownBlock = some g → g < w.heap.size ∧ g ≠ X ∧ o.ownBlock ≠ some g ∧ s.ownBlock ≠ some g ∧ x.ownBlock ≠ some g
  seen : w.ownsRow B 3 1 s met.length (met.map (Value.int .i64))
  cur : w.ownsRow B 3 1 x cur.length (cur.map (Value.int .i64))
  so : ∀ g, s.ownBlock = some g → g < w.heap.size ∧ g ≠ X ∧ o.ownBlock ≠ some g ∧ x.ownBlock ≠ some g
  xo : ∀ g, x.ownBlock = some g → g < w.heap.size ∧ g ≠ X ∧ o.ownBlock ≠ some g
  oo : ∀ g, o.ownBlock = some g → g < w.heap.size ∧ g ≠ X
theorem FmG.start (w : World) (B X : Nat) (h : X < w.heap.size) : FmG w B X (.slice none 0 0) (.slice none 0 0) (.slice none 0 0) [] [] [] [] :=
  ⟨h, ⟨rfl, .inl ⟨rfl, rfl⟩⟩, fun _ hj => absurd hj (Nat.not_lt_zero _), ⟨rfl, .inl ⟨rfl, rfl⟩⟩, ⟨rfl, .inl ⟨rfl, rfl⟩⟩, fun g e => (by cases e), fun g e => (by cases e), fun g e => (by cases e)⟩
section
variable {w w' : World} {B X : Nat} {o s x : Value} {bs : List Blk} {fl : List Value} {met cur : List Int}
theorem FmG.keep (h : FmG w B X o s x bs fl met cur) (hb : Below w.heap.size w w') : FmG w' B X o s x bs fl met cur where
  xlt := Nat.lt_of_lt_of_le h.xlt hb.size
  out := own_keep h.out hb
  each := fun j hj => by
    obtain ⟨h0, v, h1, h2, h3⟩ := h.each j hj
    exact ⟨h0, v, h1, own_keep h2 hb, fun g e => ⟨Nat.lt_of_lt_of_le (h3 g e).1 hb.size, (h3 g e).2⟩⟩
  seen := own_keep h.seen hb
  cur := own_keep h.cur hb
  so := fun g e => ⟨Nat.lt_of_lt_of_le (h.so g e).1 hb.size, (h.so g e).2⟩
  xo := fun g e => ⟨Nat.lt_of_lt_of_le (h.xo g e).1 hb.size, (h.xo g e).2⟩
  oo := fun g e => ⟨Nat.lt_of_lt_of_le (h.oo g e).1 hb.size, (h.oo g e).2⟩
/-- Another block X, newly made. -/
theorem FmG.fresh (h : FmG w B X o s x bs fl met cur) (hb : Below w.heap.size w w') (hs : w.heap.size < w'.heap.size) : FmG w' B w.heap.size o s x bs fl met cur where
  xlt := hs
  out := own_keep h.out hb
  each := fun j hj => by
    obtain ⟨h0, v, h1, h2, h3⟩ := h.each j hj
    exact ⟨h0, v, h1, own_keep h2 hb, fun g e => ⟨Nat.lt_of_lt_of_le (h3 g e).1 hb.size, Nat.ne_of_lt (h3 g e).1, (h3 g e).2.2⟩⟩
  seen := own_keep h.seen hb
  cur := own_keep h.cur hb
  so := fun g e => ⟨Nat.lt_of_lt_of_le (h.so g e).1 hb.size, Nat.ne_of_lt (h.so g e).1, (h.so g e).2.2⟩
  xo := fun g e => ⟨Nat.lt_of_lt_of_le (h.xo g e).1 hb.size, Nat.ne_of_lt (h.xo g e).1, (h.xo g e).2.2⟩
  oo := fun g e => ⟨Nat.lt_of_lt_of_le (h.oo g e).1 hb.size, Nat.ne_of_lt (h.oo g e).1⟩
/-- An older block, or X, written: they stay. -/
theorem FmG.only {q : Nat} (h : FmG w B X o s x bs fl met cur) (ho : Only q w w') (hq : q < B ∨ q = X) : FmG w' B X o s x bs fl met cur := by
  have hne : ∀ {v : Value} {e : TypeId} {k n : Nat} {xs : List Value}, w.ownsRow B e k v n xs → (∀ g, v.ownBlock = some g → g ≠ X) → v.ownBlock ≠ some q := fun {v e k n xs} h1 h2 e' => by
    have h3 := (h1.lt q e').1
    have h4 := h2 q e'
    omega
  refine ⟨Nat.lt_of_lt_of_le h.xlt ho.size, own_other h.out ho (hne h.out fun g e => (h.oo g e).2), fun j hj => ?_, own_other h.seen ho (hne h.seen fun g e => (h.so g e).2.1), own_other h.cur ho (hne h.cur fun g e => (h.xo g e).2.1), fun g e => ⟨Nat.lt_of_lt_of_le (h.so g e).1 ho.size, (h.so g e).2⟩, fun g e => ⟨Nat.lt_of_lt_of_le (h.xo g e).1 ho.size, (h.xo g e).2⟩, fun g e => ⟨Nat.lt_of_lt_of_le (h.oo g e).1 ho.size, (h.oo g e).2⟩⟩
  obtain ⟨h0, v, h1, h2, h3⟩ := h.each j hj
  exact ⟨h0, v, h1, own_other h2 ho (hne h2 fun g e => (h3 g e).2.1), fun g e => ⟨Nat.lt_of_lt_of_le (h3 g e).1 ho.size, (h3 g e).2⟩⟩
theorem app_own {u s' t : Value} {e : TypeId} {k n : Nat} {xs : List Value} (ha : App B w w' t s') (h1 : w.ownsRow B e k u n xs) (h2 : ∀ g, u.ownBlock = some g → t.ownBlock ≠ some g) : w'.ownsRow B e k u n xs :=
  ha.own h1 (by
    cases e : u.ownBlock with
    | none => exact .inl rfl
    | some g => exact .inr fun e' => h2 g e e'.symm)
theorem FmG.addS {s' : Value} {y : Int} (h : FmG w B X o s x bs fl met cur) (ha : App B w w' s s') (ho : w'.ownsRow B 3 1 s' (met.length + 1) ((met ++ [y]).map (Value.int .i64))) : FmG w' B X o s' x bs fl (met ++ [y]) cur := by
  have hlt := ha.below.size
  refine ⟨Nat.lt_of_lt_of_le h.xlt hlt, app_own ha h.out (fun g e e' => (h.so g e').2.2.1 e), fun j hj => ?_, by simpa using ho, app_own ha h.cur (fun g e e' => (h.so g e').2.2.2 e), fun g e => ?_, fun g e => ⟨Nat.lt_of_lt_of_le (h.xo g e).1 hlt, (h.xo g e).2⟩, fun g e => ⟨Nat.lt_of_lt_of_le (h.oo g e).1 hlt, (h.oo g e).2⟩⟩
  · obtain ⟨h0, v, h1, h2, h3⟩ := h.each j hj
    exact ⟨h0, v, h1, app_own ha h2 (fun g e => (h3 g e).2.2.2.1), fun g e => ⟨Nat.lt_of_lt_of_le (h3 g e).1 hlt, (h3 g e).2.1, (h3 g e).2.2.1, ha.ne (h3 g e).1 (h3 g e).2.2.2.1, (h3 g e).2.2.2.2⟩⟩
  · refine ⟨own_ltG ho e, fun e' => ?_, fun e' => ?_, fun e' => ?_⟩
    · subst e'
      exact ha.ne h.xlt (fun e2 => (h.so _ e2).2.1 rfl) e
    · exact ha.ne (h.oo g e').1 (fun e2 => (h.so _ e2).2.2.1 e') e
    · exact ha.ne (h.xo g e').1 (fun e2 => (h.so _ e2).2.2.2 e') e
theorem FmG.addX {x' : Value} {y : Int} (h : FmG w B X o s x bs fl met cur) (ha : App B w w' x x') (ho : w'.ownsRow B 3 1 x' (cur.length + 1) ((cur ++ [y]).map (Value.int .i64))) : FmG w' B X o s x' bs fl met (cur ++ [y]) := by
  have hlt := ha.below.size
  refine ⟨Nat.lt_of_lt_of_le h.xlt hlt, app_own ha h.out (fun g e e' => (h.xo g e').2.2 e), fun j hj => ?_, app_own ha h.seen (fun g e => (h.so g e).2.2.2), by simpa using ho, fun g e => ⟨Nat.lt_of_lt_of_le (h.so g e).1 hlt, (h.so g e).2.1, (h.so g e).2.2.1, ha.ne (h.so g e).1 (h.so g e).2.2.2⟩, fun g e => ?_, fun g e => ⟨Nat.lt_of_lt_of_le (h.oo g e).1 hlt, (h.oo g e).2⟩⟩
  · obtain ⟨h0, v, h1, h2, h3⟩ := h.each j hj
    exact ⟨h0, v, h1, app_own ha h2 (fun g e => (h3 g e).2.2.2.2), fun g e => ⟨Nat.lt_of_lt_of_le (h3 g e).1 hlt, (h3 g e).2.1, (h3 g e).2.2.1, (h3 g e).2.2.2.1, ha.ne (h3 g e).1 (h3 g e).2.2.2.2⟩⟩
  · refine ⟨own_ltG ho e, fun e' => ?_, fun e' => ?_⟩
    · subst e'
      exact ha.ne h.xlt (fun e2 => (h.xo _ e2).2.1 rfl) e
    · exact ha.ne (h.oo g e').1 (fun e2 => (h.xo _ e2).2.2 e') e
theorem FmG.push {o' : Value} {e : Bool} (h : FmG w B X o s x bs fl met cur) (ha : App B w w' o o') (ho : w'.ownsRow B 32 2 o' (bs.length + 1) (fl ++ [.bool e, x])) : FmG w' B X o' s (.slice none 0 0) (bs ++ [(e, cur)]) (fl ++ [.bool e, x]) met [] := by
  have hlt := ha.below.size
  have hl : fl.length = bs.length * 2 := h.out.1
  refine ⟨Nat.lt_of_lt_of_le h.xlt hlt, by simpa using ho, fun j hj => ?_, app_own ha h.seen (fun g e => (h.so g e).2.2.1), ⟨rfl, .inl ⟨rfl, rfl⟩⟩, fun g e => ⟨Nat.lt_of_lt_of_le (h.so g e).1 hlt, (h.so g e).2.1, ha.ne (h.so g e).1 (h.so g e).2.2.1, fun e' => (by cases e')⟩, fun g e => (by cases e), fun g e' => ⟨own_ltG ho e', fun e2 => ?_⟩⟩
  · by_cases hlt2 : j < bs.length
    · obtain ⟨h0, u, h1, h2, h3⟩ := h.each j hlt2
      have hg : (bs ++ [(e, cur)]).getD j blk0 = bs.getD j blk0 := by simp [List.getD, List.getElem?_append_left hlt2]
      rw [hg]
      exact ⟨by rw [List.getElem?_append_left (by omega)]; exact h0, u, by rw [List.getElem?_append_left (by omega)]; exact h1, app_own ha h2 (fun g e => (h3 g e).2.2.1), fun g e => ⟨Nat.lt_of_lt_of_le (h3 g e).1 hlt, (h3 g e).2.1, ha.ne (h3 g e).1 (h3 g e).2.2.1, (h3 g e).2.2.2.1, fun e' => (by cases e')⟩⟩
    · have hj' : j = bs.length := by simp at hj; omega
      subst hj'
      have hg : (bs ++ [(e, cur)]).getD bs.length blk0 = (e, cur) := by simp [List.getD]
      rw [hg]
      refine ⟨by rw [List.getElem?_append_right (by omega), show bs.length * 2 - fl.length = 0 by omega]; rfl, x, by rw [List.getElem?_append_right (by omega), show bs.length * 2 + 1 - fl.length = 1 by omega]; rfl, app_own ha h.cur (fun g e => (h.xo g e).2.2), fun g e' => ⟨Nat.lt_of_lt_of_le (h.xo g e').1 hlt, (h.xo g e').2.1, ha.ne (h.xo g e').1 (h.xo g e').2.2, fun e2 => (h.so g e2).2.2.2 e', fun e2 => (by cases e2)⟩⟩
  · subst e2
    exact ha.ne h.xlt (fun e3 => (h.oo _ e3).2 rfl) e'
theorem FmG.reX {Y : Nat} (h : FmG w B X o s x bs fl met cur) (hY : Y < B) (hw : Y < w.heap.size) : FmG w B Y o s x bs fl met cur where
  xlt := hw
  out := h.out
  each := fun j hj => by
    obtain ⟨h0, v, h1, h2, h3⟩ := h.each j hj
    exact ⟨h0, v, h1, h2, fun g e => ⟨(h3 g e).1, fun e' => by have := (h2.lt g e).1; omega, (h3 g e).2.2⟩⟩
  seen := h.seen
  cur := h.cur
  so := fun g e => ⟨(h.so g e).1, fun e' => by have := (h.seen.lt g e).1; omega, (h.so g e).2.2⟩
  xo := fun g e => ⟨(h.xo g e).1, fun e' => by have := (h.cur.lt g e).1; omega, (h.xo g e).2.2⟩
  oo := fun g e => ⟨(h.oo g e).1, fun e' => by have := (h.out.lt g e).1; omega⟩
theorem FmG.blocks (h : FmG w B X o s x bs fl met cur) : BlG w B o bs fl := ⟨h.out, fun j hj => by
  obtain ⟨h0, v, h1, h2, h3⟩ := h.each j hj
  exact ⟨h0, v, h1, h2, fun g e => ⟨(h3 g e).1, (h3 g e).2.2.1⟩⟩⟩
end
end Go.Proofs.YtfoohdknjacenaaDoor

namespace Go.Proofs.YtfoohdknjacenaaDoor
open Go.RowKit

/-- n, brought between 0 and k. -/
def modN (n : Int) (k : Nat) : Nat := (n % (k : Int)).toNat
theorem modN_lt (n : Int) {k : Nat} (h : 0 < k) : modN n k < k := by
  unfold modN
  have h1 := Int.emod_nonneg n (show (k : Int) ≠ 0 by omega)
  have h2 := Int.emod_lt_of_pos n (show (0 : Int) < k by omega)
  omega

set_option maxHeartbeats 1000000 in
theorem modNum_any (n : Int) (k : Nat) (hk : 0 < k) (hk2 : k ≤ 1000) (w : World) :
    Calls Tryd.prog 5 #[.int .i64 n, .int .i64 (k : Int)] w fun e w' => e = .returned (.int .i64 (modN n k : Int)) ∧ w = w' := by
  have hkz : ((k : Int) == 0) = false := beq_eq_false_iff_ne.2 (by omega)
  have e0 : ((modN n k : Nat) : Int) = n % (k : Int) := by
    unfold modN
    have := Int.emod_nonneg n (show (k : Int) ≠ 0 by omega)
    omega
  rw [e0]
  have t1 := Int.emod_nonneg n (show (k : Int) ≠ 0 by omega)
  have t2 := Int.emod_lt_of_pos n (show (0 : Int) < k by omega)
  clear e0
  have hlt : n.tmod (k : Int) < k := Int.tmod_lt_of_pos n (by omega)
  have hgt : -(k : Int) < n.tmod (k : Int) := by
    have := Int.tmod_lt_of_pos (-n) (show (0 : Int) < k by omega)
    rw [Int.neg_tmod] at this
    omega
  have hk3 : (k : Int) ≤ 1000 := by omega
  have hk4 : (0 : Int) < k := by omega
  by_cases hneg : n.tmod (k : Int) < 0
  · have hb : decide (n.tmod (k : Int) < 0) = true := decide_eq_true hneg
    have he : n.tmod (k : Int) + k = n % (k : Int) := by
      rw [Int.tmod_eq_emod]
      rw [Int.tmod_eq_emod] at hneg
      split at hneg
      · omega
      · rename_i h
        rw [if_neg h]
        have : ((k : Int).natAbs : Int) = k := by omega
        omega
    rw [← he]
    clear he t1 t2
    go_enter Tryd.func5, Tryd.ntmps5
    go_wp2_with fail
    (try go_ret)
    exact ⟨rfl, rfl⟩
  · have hb : decide (n.tmod (k : Int) < 0) = false := decide_eq_false hneg
    have he : n.tmod (k : Int) = n % (k : Int) := by
      rw [Int.tmod_eq_emod]
      rw [Int.tmod_eq_emod] at hneg
      split at hneg
      · rename_i h
        rw [if_pos h]; omega
      · exfalso
        have : ((k : Int).natAbs : Int) = k := by omega
        omega
    rw [← he]
    clear he t1 t2
    go_enter Tryd.func5, Tryd.ntmps5
    go_wp2_with fail
    (try go_ret)
    exact ⟨rfl, rfl⟩

/-- A row of bytes, the call's own or those of a constant. -/
def TRow (w : World) (B : Nat) (v : Value) (xs : List Int) : Prop :=
  (∃ g, v = .slice (some ⟨g, 0, none⟩) xs.length xs.length ∧ g < w.heap.size ∧ ∀ j u, (xs.map (Value.int .u8))[j]? = some u → w.cell? ⟨g, j, none⟩ = some u) ∨ w.ownsRow B 5 1 v xs.length (xs.map (Value.int .u8))
theorem TRow.keep {w w' : World} {B : Nat} {v : Value} {xs : List Int} (h : TRow w B v xs) (hb : Below w.heap.size w w') : TRow w' B v xs :=
  h.imp (fun ⟨g, e, hg, hc⟩ => ⟨g, e, Nat.lt_of_lt_of_le hg hb.size, fun j u hj => (hb.cell (p := ⟨g, j, none⟩) hg).trans (hc j u hj)⟩) (fun h => own_keep h hb)

theorem wpList_appT {ops : Array Oper} {rest : List Oper} {o : Oper} {a : Act} {Q : Exit → Act → World → Prop} (hgd : o.guard = none) (sl x : Operand)
    (ho : o.op = .call { callee := .builtin .append, args := #[sl, x], argTypes := #[34, 9] })
    (w : World) (B : Nat) (v : Value) (xs ys : List Int) (hb : Bts ys) (hy : 0 < ys.length) (ht : TRow w B v xs) (hB : B ≤ w.heap.size) (hn : xs.length + ys.length ≤ 1000000)
    (hs : a.eval sl = v) (hx : a.eval x = .string (strOfNums ys))
    (h : ∀ v' w', w'.ownsRow B 5 1 v' (xs.length + ys.length) ((xs ++ ys).map (Value.int .u8)) → Below B w w' → wpList Tryd.prog ops Q rest (a.put o.dst v') w') : wpList Tryd.prog ops Q (o :: rest) a w := by
  rcases ht with ⟨g, rfl, hg, hc⟩ | hown
  · refine wpList_appFull hgd sl x ho w g xs.length (xs.map (Value.int .u8)) (by simp) hc (strOfNums ys) (by rw [strOfNums_size]; exact hy) (by rw [strOfNums_size]; exact hn) hs hx ?_
    intro v' w' h1 h2
    rw [strOfNums_size, strCells_nums hb, ← List.map_append] at h1
    exact h v' w' (own_base h1 hB) (h2.mono hB)
  · exact wpList_appStr hgd sl x ho w B v xs.length xs ys hb hown hB (by omega) hs hx h
end Go.Proofs.YtfoohdknjacenaaDoor

namespace Go.Proofs.YtfoohdknjacenaaDoor
open Go.RowKit

/-- 'make([]byte, 0, n)'. -/
theorem wpList_make0U {ops : Array Oper} {rest : List Oper} {o : Oper} {a : Act} {Q : Exit → Act → World → Prop} (hgd : o.guard = none) (l c : Operand) (ho : o.op = Op.makeSlice 34 l c)
    (w : World) (n : Nat) (hl : a.eval l = .int .i64 0) (hc : a.eval c = .int .i64 (n : Int)) (hn : n < 1099511627776)
    (h : ∀ w', w'.ownsRow w.heap.size 5 1 (.slice (some ⟨w.heap.size, 0, none⟩) 0 n) 0 (([] : List Int).map (Value.int .u8)) → Below w.heap.size w w' → w.heap.size < w'.heap.size → wpList Tryd.prog ops Q rest (a.put o.dst (.slice (some ⟨w.heap.size, 0, none⟩) 0 n)) w') :
    wpList Tryd.prog ops Q (o :: rest) a w := by
  obtain ⟨i0, hi, hz0, hz1, hz2⟩ := info_parts infoU8
  refine wpList_make_own _ hgd l c 34 ho w.heap.size 5 i0 (.int .u8 0) 1 Tryd.underlying34 hi hz0 hz1 _ _ _ n hl hc rfl (by rw [hz2]; omega) (by unfold maxLen; omega) (Nat.le_refl _) ?_
  intro w' h1 h2
  have hlt := h1.lt w.heap.size rfl
  exact h w' (by simpa using h1) ((Below.refl _ w).grown h2 (Nat.le_refl _) fun k hk => by cases hk) hlt.2

set_option maxHeartbeats 1000000 in
theorem copyB_any (v : Value) (xs : List Int) (w : World) (hv : RowG (Value.int .u8) 0 w v xs) (hn : xs.length ≤ 10000) :
    Calls Tryd.prog 7 #[v] w fun e w' => (∃ v', e = .returned v' ∧ w'.ownsRow w.heap.size 5 1 v' xs.length (xs.map (Value.int .u8))) ∧ Below w.heap.size w w' := by
  obtain ⟨a, c, rfl, hxc, hcm, hx⟩ := hv
  unfold maxLen at hcm
  have HX := Lib.hid hx; clear hx
  generalize hN : xs.length = n at *
  have HN := Lib.hid hN; clear hN
  go_enter Tryd.func7, Tryd.ntmps7
  go_wp2_with (at_make; refine wpList_make0U rfl _ _ rfl _ n rfl rfl (by omega) ?_; intro w1 hown hb1 hs1)
  go_loopw [3, 4] (fun o i wr => ∃ k : Nat, k ≤ n ∧ i = .int .i64 k ∧ wr.ownsRow w.heap.size 5 1 o k ((xs.take k).map (Value.int .u8)) ∧ Below w.heap.size w wr ∧ w.heap.size < wr.heap.size) (fun _ i _ => n - (intOf i).toNat)
  case atStart => exact ⟨0, Nat.zero_le _, rfl, by simpa using hown, hb1, hs1⟩
  case round =>
    obtain ⟨k, hk, rfl, hownr, hbr, hsr⟩ := hrel
    clear hown hb1 hs1
    by_cases hlt : k < n
    · obtain ⟨b, off, ha, hb, hc⟩ := HX.out.resolve_left (by omega)
      subst ha
      have g1 : wr.cell? ⟨b, off + k, none⟩ = some (.int .u8 (xs.getD k 0)) := (hbr.cell (p := ⟨b, off + k, none⟩) hb).trans (hc k hlt)
      clear hc
      have HT := Lib.hid (take_snoc xs k (by rw [HN.out]; exact hlt))
      generalize xs.getD k 0 = y at *
      go_wp2_with (at_builtin; refine wpList_app1G (Value.int .u8) 34 5 (.int .u8 0) 1 Tryd.underlying34 infoU8 rfl (by decide) rfl _ _ rfl wr w.heap.size _ _ _ y rfl hownr (by omega) (by omega) rfl rfl ?_; intro v' w2 hown2 hb3)
      go_roundw
      case rel => exact ⟨k + 1, by omega, by go_num, by rw [HT.out]; exact hown2, hbr.trans hb3.below, Nat.lt_of_lt_of_le hsr hb3.below.size⟩
      case measure => simp [intOf]; omega
    · have hkn : k = n := by omega
      rw [hkn, List.take_of_length_le (by rw [HN.out]; exact Nat.le_refl _)] at hownr
      clear hkn
      go_wp2
      go_ret
      exact ⟨⟨_, rfl, hownr⟩, hbr⟩
end Go.Proofs.YtfoohdknjacenaaDoor

namespace Go.Proofs.YtfoohdknjacenaaDoor
open Go.RowKit

def nearB (l : Int) : Bool := !decide (l < -1152921504606846976)
theorem nearB_iff (l : Int) : nearB l = true ↔ -1152921504606846976 ≤ l := by unfold nearB; simp

set_option maxHeartbeats 1000000 in
theorem near_any (v : Value) (xs : List Int) (w : World) (hv : Row w v xs) :
    Calls Tryd.prog 11 #[v] w fun e w' => e = .returned (.bool (xs.all nearB)) ∧ w = w' := by
  obtain ⟨a, c, rfl, hxc, hcm, hx⟩ := hv
  unfold maxLen at hcm
  have HX := Lib.hid hx; clear hx
  generalize hN : xs.length = n at *
  have HN := Lib.hid hN; clear hN
  go_enter Tryd.func11, Tryd.ntmps11
  go_wp2
  go_loop [3] (fun i => ∃ k : Nat, k ≤ n ∧ i = .int .i64 k ∧ Hid ((xs.take k).all nearB = true)) (fun i => n - (intOf i).toNat)
  case atStart => exact ⟨0, Nat.zero_le _, rfl, by simp [Hid]⟩
  case round =>
    obtain ⟨k, hk, rfl, HQ⟩ := hrel
    by_cases hlt : k < n
    · obtain ⟨b, off, ha, hb, hc⟩ := HX.out.resolve_left (by omega)
      subst ha
      have g1 : w.cell? ⟨b, off + k, none⟩ = some (.int .i64 (xs.getD k 0)) := hc k hlt
      clear hc
      have hkl : k < xs.length := by rw [HN.out]; exact hlt
      have HT := Lib.hid (show (xs.take (k + 1)).all nearB = ((xs.take k).all nearB && nearB (xs.getD k 0)) by rw [take_snoc xs k hkl, List.all_append]; simp)
      have HF := Lib.hid (show nearB (xs.getD k 0) = false → xs.all nearB = false from fun h => by
        rw [List.all_eq_false]
        exact ⟨xs[k], List.getElem_mem hkl, by simpa [List.getD, hkl] using h⟩)
      clear hkl
      generalize xs.getD k 0 = y at *
      by_cases hy : y < -1152921504606846976
      · go_wp2
        go_ret
        exact ⟨by rw [HF.out (by unfold nearB; simp [hy])]; rfl, rfl⟩
      · go_wp2
        go_round
        case rel => exact ⟨k + 1, by omega, by go_num, by unfold Hid; rw [HT.out, HQ.out]; unfold nearB; simp; omega⟩
        case measure => simp [intOf]; omega
    · have hkn : k = n := by omega
      have HA := Lib.hid (show xs.all nearB = true by have := HQ.out; rwa [hkn, List.take_of_length_le (by rw [HN.out]; exact Nat.le_refl _)] at this)
      clear hlt
      go_wp2
      go_ret
      exact ⟨by rw [HA.out]; rfl, rfl⟩
end Go.Proofs.YtfoohdknjacenaaDoor

namespace Go.Proofs.YtfoohdknjacenaaDoor

/-- 1, 2, .., u. -/
def seqI (u : Nat) : List Int := (List.range u).map fun (i : Nat) => (i : Int) + 1
theorem seqI_mem {u : Nat} {x : Int} : x ∈ seqI u ↔ 1 ≤ x ∧ x ≤ u := by
  unfold seqI
  simp only [List.mem_map, List.mem_range]
  constructor
  · rintro ⟨i, h, rfl⟩; omega
  · rintro ⟨h1, h2⟩; exact ⟨x.toNat - 1, by omega, by omega⟩
theorem seqI_succ (u : Nat) : seqI (u + 1) = seqI u ++ [(u : Int) + 1] := by
  unfold seqI
  rw [List.range_succ, List.map_append]
  rfl
theorem seqI_ok {u : Nat} (h : u < 12) : okV 12 (seqI u) ((u : Int) + 1) = true := by
  unfold okV
  have h1 : (seqI u).contains ((u : Int) + 1) = false := by
    rw [Bool.eq_false_iff]
    intro h
    rw [List.contains_iff_mem, seqI_mem] at h
    omega
  rw [h1]
  simp
  omega
theorem varsOk_snoc {vars : Int} : ∀ {l met m : List Int} {x : Int}, varsOk vars met l = some m → okV vars m x = true → varsOk vars met (l ++ [x]) = some (m ++ [x])
  | [], met, m, x => fun h h2 => by
    unfold varsOk at h
    have := Option.some.inj h
    subst this
    rw [List.nil_append, varsOk, if_pos h2]
    rfl
  | y :: l, met, m, x => fun h h2 => by
    unfold varsOk at h
    by_cases hk : okV vars met y = true
    · rw [if_pos hk] at h
      rw [List.cons_append, varsOk, if_pos hk]
      exact varsOk_snoc h h2
    · rw [if_neg hk] at h; cases h
theorem blksOk_snoc {vars : Int} : ∀ {bs : List Blk} {met m m' : List Int} {b : Blk}, blksOk vars met bs = some m → varsOk vars m b.2 = some m' → blksOk vars met (bs ++ [b]) = some m'
  | [], met, m, m', b => fun h h2 => by
    unfold blksOk at h
    have := Option.some.inj h
    subst this
    rw [List.nil_append, blksOk, h2]
    rfl
  | c :: bs, met, m, m', b => fun h h2 => by
    unfold blksOk at h
    cases hk : varsOk vars met c.2 with
    | none => rw [hk] at h; cases h
    | some m1 =>
      rw [hk] at h
      rw [List.cons_append, blksOk, hk]
      exact blksOk_snoc h h2
/-- The blocks that the law makes. -/
structure BlksI (bs : List Blk) (u : Nat) : Prop where
  ok : blksOk 12 [] bs = some (seqI u)
  le : u ≤ 12
  short : ∀ b ∈ bs, b.2.length ≤ 3
theorem BlksI.start : BlksI [] 0 := ⟨rfl, by omega, by simp⟩
theorem BlksI.push {bs : List Blk} {u u' : Nat} {e : Bool} {l : List Int} (h : BlksI bs u) (hl : varsOk 12 (seqI u) l = some (seqI u')) (hu : u' ≤ 12) (hn : l.length ≤ 3) : BlksI (bs ++ [(e, l)]) u' :=
  ⟨blksOk_snoc h.ok hl, hu, fun b hb => by
    rcases List.mem_append.1 hb with hb | hb
    · exact h.short b hb
    · obtain rfl : b = (e, l) := List.mem_singleton.1 hb
      exact hn⟩
theorem BlksI.mem {bs : List Blk} {u : Nat} (h : BlksI bs u) : ∀ b ∈ bs, ∀ l ∈ b.2, 1 ≤ l ∧ l ≤ 12 := (blksOk_met 12 bs [] _ h.ok).2
theorem itoa_two {i : Int} (h1 : 0 ≤ i) (h2 : i < 100) : (itoaL i).length ≤ 2 := by
  rw [itoaL_pos (by omega)]
  exact dec_len 1 i.toNat (by omega)
theorem varsT_len (G : List Int) (hG : G.length ≤ 2) : ∀ l : List Int, (∀ x ∈ l, 1 ≤ x ∧ x ≤ 12) → (varsT G l).length ≤ 4 * l.length
  | [], _ => by simp [varsT]
  | x :: l, h => by
    have h1 := varsT_len G hG l (fun y hy => h y (by simp [hy]))
    have h2 := itoa_two (i := x) (by have := h x (by simp); omega) (by have := h x (by simp); omega)
    unfold varsT at h1 ⊢
    rw [List.flatMap_cons]
    simp only [List.length_append, List.length_cons]
    omega
theorem blkT_len (G : List Int) (hG : G.length ≤ 2) (b : Blk) (h : ∀ x ∈ b.2, 1 ≤ x ∧ x ≤ 12) : (blkT G b).length ≤ 4 * b.2.length + 4 := by
  have h1 := varsT_len G hG b.2 h
  have h2 := (let_tok b.1).2.2.2
  unfold blkT
  simp only [List.length_append, List.length_cons, List.length_nil]
  omega
theorem blks_len (G : List Int) (hG : G.length ≤ 2) : ∀ bs : List Blk, (∀ b ∈ bs, b.2.length ≤ 3 ∧ ∀ x ∈ b.2, 1 ≤ x ∧ x ≤ 12) → (bs.flatMap (blkT G)).length ≤ 16 * bs.length
  | [], _ => by simp
  | b :: bs, h => by
    have h1 := blks_len G hG bs (fun c hc => h c (by simp [hc]))
    obtain ⟨h3, h4⟩ := h b (by simp)
    have h2 := blkT_len G hG b h4
    rw [List.flatMap_cons]
    simp only [List.length_append, List.length_cons]
    omega
/-- The text of such blocks. -/
def gText (G : List Int) (bs : List Blk) : List Int := headT 12 0 ++ bs.flatMap (blkT G)
theorem itoa_nat {k : Nat} (h : k < 10) : itoaL (k : Int) = [48 + (k : Int)] := by
  rw [itoaL_pos (by omega), Int.toNat_natCast, decL_small h]
theorem itoa_ten {k : Nat} (h1 : 10 ≤ k) (h2 : k < 20) : itoaL (k : Int) = [49, 48 + ((k % 10 : Nat) : Int)] := by
  rw [itoaL_pos (by omega), Int.toNat_natCast, decL_big (by omega), show k / 10 = 1 by omega, decL_small (by omega)]
  rfl
theorem itoa12 : itoaL 12 = [49, 50] := itoa_ten (k := 12) (by omega) (by omega)
theorem itoa0' : itoaL 0 = [48] := by rw [itoaL_pos (by omega)]; exact decL_small (by decide)
theorem head12 : headT 12 0 = [112, 32, 99, 110, 102, 32, 49, 50, 32, 48, 10] := by
  unfold headT
  rw [itoa12, itoa0']
  rfl
theorem gText_len (G : List Int) (hG : G.length ≤ 2) (bs : List Blk) (h : ∀ b ∈ bs, b.2.length ≤ 3 ∧ ∀ x ∈ b.2, 1 ≤ x ∧ x ≤ 12) : (gText G bs).length ≤ 11 + 16 * bs.length := by
  have := blks_len G hG bs h
  unfold gText
  rw [head12]
  simp only [List.length_append, List.length_cons, List.length_nil]
  omega
theorem gText_bts (G : List Int) (hG : Bts G) (bs : List Blk) : Bts (gText G bs) := by
  unfold gText
  rw [head12]
  exact Bts.append (by intro x hx; simp at hx; omega) (bts_blks hG bs)
theorem gText_read (G : List Int) (hG : SkipK G) (bs : List Blk) (m : List Int) (hb : blksOk 12 [] bs = some m) : ∃ ws, readFL (gText G bs) = (12, bs, [], ws, .ok) := by
  obtain ⟨pre, h1, h2⟩ := blks_words G hG bs (fun b hb' x hx => by have := (blksOk_met 12 bs [] m hb).2 b hb' x hx; omega) (headT 12 0).length
  have hw := head_words 12 0 (bs.flatMap (blkT G) ++ [])
  rw [h1, splitL_nil, List.append_nil, List.append_nil] at hw
  have hh := head_four_ok (k0 := 0) (k1 := 2) (k2 := 6) (k3 := 7 + (itoaL 12).length) (v := 12) (n := 0) (ws := pre) (by omega) (by omega) (by omega) (by omega)
  have hd : (([112], 0, true) :: ([99, 110, 102], 2, false) :: (itoaL 12, 6, false) :: (itoaL 0, 7 + (itoaL 12).length, false) :: pre : List Wd).drop 4 = pre := rfl
  have hB : blkS 12 0 pre [] [] none = (bs, pre.length, .ok) := by
    have := blkS_is 12 bs pre [] m [] 0 [] h2 hb
    rw [List.append_nil] at this
    rw [this, blkS_stop 12 _ [] _ _ (fun x r e => by cases e)]
    simp
  have hc := cl_full 12 [] [] 0 (by simp) rfl
  unfold readFL gText
  rw [hw, hh, hd]
  dsimp only
  rw [hB]
  dsimp only
  rw [List.drop_length, show (clausesL 12 0 0 [] [] []) = ([], .ok) from hc]
  exact ⟨_, rfl⟩
/-- A block behind, of one variable that may not stand there. -/
def badT (e : Bool) (x : Int) : List Int := letL e ++ ([32] ++ (itoaL x ++ ([32] ++ ([48] ++ []))))
theorem bad_words (e : Bool) (x : Int) (k : Nat) : ∃ W, splitL true k true false (badT e x) = (letL e, k, true) :: (itoaL x, k + 2, false) :: W := by
  obtain ⟨t1, t2, t3, t4⟩ := let_tok e
  have hsp : ∀ r : List Int, ([32] ++ r = [] ∨ ∃ g r', [32] ++ r = g :: r' ∧ gapB g = true) := fun r => .inr ⟨32, r, rfl, by decide⟩
  have hb : ∀ k r, splitL true k false false (([32] : List Int) ++ r) = splitL true (k + 1) false false r := fun k r => splitL_blank true k false false 32 r (by decide)
  unfold badT
  rw [split_tok t1 t2 (hsp _) _ _ (.inr t3), hb, split_tok (t := itoaL x) (tok_itoa x).1.1 (tok_itoa x).1.2.1 (hsp _) _ _ (.inl rfl), t4]
  exact ⟨_, rfl⟩
theorem gText_bad (G : List Int) (hG : SkipK G) (bs : List Blk) (m : List Int) (hb : blksOk 12 [] bs = some m) (e : Bool) (x : Int) (hx1 : -1000000000 < x) (hx2 : x < 1000000000) (h0 : x ≠ 0) (hbad : okV 12 m x = false) :
    ∃ ws k, readFL (gText G bs ++ badT e x) = (0, [], [], ws, .text k) ∧ ∀ E, posL ws k E = (gText G bs).length + 2 := by
  obtain ⟨pre, h1, h2⟩ := blks_words G hG bs (fun b hb' x hx => by have := (blksOk_met 12 bs [] m hb).2 b hb' x hx; omega) (headT 12 0).length
  have hw := head_words 12 0 (bs.flatMap (blkT G) ++ badT e x)
  obtain ⟨W, hW⟩ := bad_words e x ((headT 12 0).length + (bs.flatMap (blkT G)).length)
  rw [h1, hW] at hw
  have hh := head_four_ok (k0 := 0) (k1 := 2) (k2 := 6) (k3 := 7 + (itoaL 12).length) (v := 12) (n := 0) (ws := pre ++ (letL e, (headT 12 0).length + (bs.flatMap (blkT G)).length, true) :: (itoaL x, (headT 12 0).length + (bs.flatMap (blkT G)).length + 2, false) :: W) (by omega) (by omega) (by omega) (by omega)
  have hl : (gText G bs).length = (headT 12 0).length + (bs.flatMap (blkT G)).length := by unfold gText; rw [List.length_append]
  rw [← hl] at hw hh
  have hd : (([112], 0, true) :: ([99, 110, 102], 2, false) :: (itoaL 12, 6, false) :: (itoaL 0, 7 + (itoaL 12).length, false) :: (pre ++ (letL e, (gText G bs).length, true) :: (itoaL x, (gText G bs).length + 2, false) :: W) : List Wd).drop 4 = pre ++ (letL e, (gText G bs).length, true) :: (itoaL x, (gText G bs).length + 2, false) :: W := rfl
  have hB : blkS 12 0 (pre ++ (letL e, (gText G bs).length, true) :: (itoaL x, (gText G bs).length + 2, false) :: W) [] [] none = ([], 0, .text (pre.length + 1)) := by
    rw [blkS_is 12 bs pre [] m [] 0 _ h2 hb, blkS, if_pos (let_blk e _).1, blkS, numL_itoa x hx1 hx2]
    simp only [if_neg h0, hbad]
    simp
  refine ⟨pre ++ (letL e, (gText G bs).length, true) :: (itoaL x, (gText G bs).length + 2, false) :: W, pre.length + 1, ?_, fun E => ?_⟩
  · have ht : gText G bs ++ badT e x = headT 12 0 ++ (bs.flatMap (blkT G) ++ badT e x) := by unfold gText; rw [List.append_assoc]
    unfold readFL
    rw [ht, hw, hh, hd]
    dsimp only
    rw [hB]
    rfl
  · unfold posL
    rw [if_pos (by simp), List.getD_eq_getElem?_getD, List.getElem?_append_right (by omega), show pre.length + 1 - pre.length = 1 by omega]
    simp
theorem bad13 : badT true 13 = [101, 32, 49, 51, 32, 48] := by
  unfold badT letL
  rw [show itoaL 13 = [49, 51] from itoa_ten (k := 13) (by omega) (by omega)]
  rfl
theorem bad1 : badT false 1 = [97, 32, 49, 32, 48] := by
  unfold badT letL
  rw [show itoaL 1 = [49] by rw [itoaL_pos (by omega)]; exact decL_small (by decide)]
  rfl
theorem okV_13 (m : List Int) : okV 12 m 13 = false := by unfold okV; simp
theorem okV_1 {u : Nat} (h : 1 ≤ u) : okV 12 (seqI u) 1 = false := by
  unfold okV
  have h1 : (seqI u).contains (1 : Int) = true := by rw [List.contains_iff_mem, seqI_mem]; omega
  rw [h1]
  simp
/-- The gaps that the law uses. -/
def gapT (q : Nat) : List Int := if q = 0 then [32] else if q = 1 then [10] else [32, 9]
theorem gapT_skip (q : Nat) : SkipK (gapT q) := by
  unfold gapT
  split
  · exact skipK_one (by decide)
  · split
    · exact skipK_one (by decide)
    · exact skipK_app (G := [32]) (G' := [9]) (skipK_one (by decide)) (skipK_one (by decide))
theorem gapT_len (q : Nat) : (gapT q).length ≤ 2 := by unfold gapT; split <;> (try split) <;> simp
theorem gapT_bts (q : Nat) : Bts (gapT q) := by
  unfold gapT
  intro x hx
  split at hx <;> (try split at hx) <;> simp at hx <;> omega
/-- The digits of a small number, as the law writes them. -/
theorem itoa_digits {k : Nat} (h1 : k ≤ 12) : itoaL (k : Int) = if 9 < k then [49] ++ [48 + ((k % 10 : Nat) : Int)] else [48 + ((k % 10 : Nat) : Int)] := by
  by_cases h : 9 < k
  · rw [if_pos h, itoa_ten (by omega) (by omega)]; rfl
  · rw [if_neg h, itoa_nat (by omega), show k % 10 = k by omega]
end Go.Proofs.YtfoohdknjacenaaDoor

namespace Go.Proofs.YtfoohdknjacenaaDoor
open Go.RowKit

theorem rowOf {w : World} {a : Option Addr} {len cap : Nat} {zs : List Int}
    (h : (a = none ∧ len = 0 ∧ cap = 0 ∧ zs = []) ∨ ∃ x, a = some x ∧ len ≤ cap ∧ cap ≤ maxLen ∧ zs.length = cap ∧ (∀ i, i < zs.length → w.cell? (x.add i) = some (.int .i64 (zs.getD i 0))) ∧ ∀ n ∈ zs, (Lit.int .i64 n).wf = true) :
    ∃ xs : List Int, xs.length = len ∧ RowAt w a cap xs ∧ ∀ y ∈ xs, -9223372036854775808 ≤ y ∧ y ≤ 9223372036854775807 := by
  rcases h with ⟨rfl, rfl, rfl, rfl⟩ | ⟨x, rfl, hl, hm, hz, hc, hw⟩
  · exact ⟨[], rfl, ⟨by simp, by unfold maxLen; omega, .inl rfl⟩, by simp⟩
  · refine ⟨zs.take len, by simp; omega, ⟨by simp; omega, hm, ?_⟩, fun y hy => bounds_i64 (hw y (List.mem_of_mem_take hy))⟩
    by_cases h0 : len = 0
    · left; simp [h0]
    · right
      obtain ⟨b, off, spot⟩ := x
      have h1 := hc 0 (by omega)
      have hs : spot = none := by simpa [Addr.add] using World.cell?_spot h1
      subst hs
      refine ⟨b, off, rfl, World.block_lt_of_cell? w _ h1, fun i hi => ?_⟩
      have hi' : i < len := by simp at hi; omega
      have h2 := hc i (by omega)
      have he : (⟨b, off, none⟩ : Addr).add i = ⟨b, off + i, none⟩ := by
        by_cases e : i = 0
        · subst e; rfl
        · simp [Addr.add, e]
      rw [he] at h2
      rw [h2]
      simp [List.getD, hi']
end Go.Proofs.YtfoohdknjacenaaDoor

namespace Go.Proofs.YtfoohdknjacenaaDoor
open Go.RowKit Go.ChangeShapes Go.WideShapes Go.ChangeAt Go.Deep Go.Joins

theorem cellsInt : Tryd.prog.cellsOf 3 = 1 := by kernel_rfl
theorem cellsInts : Tryd.prog.cellsOf 23 = 1 := by kernel_rfl
theorem bytesInt : Tryd.prog.bytesOf 3 = 8 := by kernel_rfl

set_option maxRecDepth 100000 in
theorem open_row {H : Type} {enc : TypeId × Value → H} {W : World} {base : Nat} {v : Value} {d : DataW H} {p : List MemPlace} (hv : Value.okWide Tryd.prog W .any base 23 v) (h : DataW.Trod enc Tryd.prog W 0 (fun _ => true) true 23 v d p) :
    ∃ a cap xs, v = .slice a (List.length xs) cap ∧ RowAt W a cap xs ∧ ∀ y ∈ xs, -9223372036854775808 ≤ y ∧ y ≤ 9223372036854775807 := by
  obtain ⟨a0, len0, cap0, rfl⟩ := okWide_slice Tryd.underlying23 hv
  obtain ⟨fuel, hf⟩ := h
  rcases open_ints Tryd.underlying23 Tryd.underlying3 cellsInt hf with ⟨hcs, _⟩ | ⟨x, l, c, zs, hcs, _, hl, hm, hz, _, hcell, hwz⟩
  · simp [Value.cells] at hcs
    obtain ⟨rfl, rfl, rfl⟩ := hcs
    exact ⟨none, 0, [], rfl, ⟨Nat.le_refl _, by unfold maxLen; omega, .inl rfl⟩, by simp⟩
  · simp [Value.cells] at hcs
    obtain ⟨rfl, rfl, rfl⟩ := hcs
    obtain ⟨xs, hx, hr, hb⟩ := rowOf (.inr ⟨x, rfl, hl, hm, by simpa using hz, hcell, hwz⟩)
    exact ⟨some x, cap0, xs, by rw [hx], hr, hb⟩

theorem weightsAll_mem' {H : Type} {P : Program} {e : TypeId} : ∀ {l : List (DataW H)} {d : DataW H}, d ∈ l → ∀ n ∈ d.weights P e, n ∈ DataW.weightsAll P e l
  | d' :: r, d, hd, n, hn => by
    simp only [DataW.weightsAll, List.mem_append]
    rcases List.mem_cons.1 hd with rfl | h
    · exact Or.inl hn
    · exact Or.inr (weightsAll_mem' h n hn)

theorem open_rows {H : Type} {enc : TypeId × Value → H} {W : World} {n : Nat} {v : Value} {y : DataW H × List MemPlace} (h : DataW.trod enc Tryd.prog W 0 (fun _ => true) true n 25 [v] = some y) :
    ∃ a cap xss, v = .slice a (List.length xss) cap ∧ RowsAt W a cap xss ∧ (∀ xs ∈ xss, ∀ z ∈ xs, -9223372036854775808 ≤ z ∧ z ≤ 9223372036854775807) ∧
      ((∀ m ∈ y.1.weights Tryd.prog 25, m ≤ reachBytes) → ∀ xs ∈ xss, xs.length ≤ 140737488355328) := by
  rcases open_int_rows Tryd.underlying25 Tryd.underlying23 Tryd.underlying3 cellsInts cellsInt h with ⟨hcs, _⟩ | ⟨a, len, cap, Af, L, C, Z, hcs, _, hl, hm, hx, hr⟩
  · simp at hcs
    subst hcs
    exact ⟨none, 0, [], rfl, ⟨Nat.le_refl _, by unfold maxLen; omega, .inl rfl⟩, by simp, by simp⟩
  · simp at hcs
    subst hcs
    have hgt : ∀ i, i < len → (((List.range len).map fun r => (Z r).take (L r)).getD i []) = (Z i).take (L i) := fun i hi => by simp [List.getD, hi]
    refine ⟨some a, cap, (List.range len).map fun r => (Z r).take (L r), by simp, ⟨by simpa using hl, hm, ?_⟩, ?_, ?_⟩
    · rcases Nat.eq_zero_or_pos len with h0 | h0
      · left; simp [h0]
      · right
        obtain ⟨b, off, spot⟩ := a
        have h1 := (hr 0 (by omega)).1
        have hs : spot = none := by simpa [Addr.add] using World.cell?_spot h1
        subst hs
        have he : ∀ (b off i : Nat), (⟨b, off, none⟩ : Addr).add i = ⟨b, off + i, none⟩ := fun b off i => by
          by_cases e : i = 0
          · subst e; rfl
          · simp [Addr.add, e]
        refine ⟨b, off, rfl, World.block_lt_of_cell? W _ h1, fun i hi => ?_⟩
        have hi' : i < len := by simpa using hi
        obtain ⟨c1, c2, c3, c4, c5, c6, c7⟩ := hr i (by omega)
        rw [he] at c1
        refine ⟨_, c1, ?_⟩
        rw [hgt i hi']
        have hlen : ((Z i).take (L i)).length = L i := by simp; omega
        refine ⟨Af i, C i, by rw [hlen], by omega, c3, ?_⟩
        cases ha : Af i with
        | none => left; have := c6 ha; omega
        | some a' =>
          by_cases hz : L i = 0
          · left; omega
          · right
            obtain ⟨_, c8⟩ := c7 a' ha
            obtain ⟨b', off', spot'⟩ := a'
            have h2 := c8 0 (by omega)
            have hs : spot' = none := by simpa [Addr.add] using World.cell?_spot h2
            subst hs
            refine ⟨b', off', rfl, World.block_lt_of_cell? W _ h2, fun j hj => ?_⟩
            have hj' : j < L i := by omega
            have h3 := c8 j (by omega)
            rw [he] at h3
            rw [h3]
            simp [List.getD, hj']
    · intro xs hxs z hz
      obtain ⟨r, hr', rfl⟩ := List.mem_map.1 hxs
      have hrl : r < len := by simpa using hr'
      obtain ⟨_, _, _, _, c5, _⟩ := hr r (by omega)
      exact bounds_i64 (c5 z (List.mem_of_mem_take hz))
    · intro hw xs hxs
      obtain ⟨r, hr', rfl⟩ := List.mem_map.1 hxs
      have hrl : r < len := by simpa using hr'
      obtain ⟨_, c2, _, c4, _, c6, _⟩ := hr r (by omega)
      have hle : ((Z r).take (L r)).length = L r := by simp; omega
      rw [hle]
      cases ha : Af r with
      | none => have := c6 ha; omega
      | some a' =>
        have hmem : (L r + (C r - L r)) * 8 ∈ y.1.weights Tryd.prog 25 := by
          rw [hx]
          simp only [DataW.weights, Tryd.underlying25, List.mem_cons, List.mem_append]
          refine .inr (.inl (weightsAll_mem' (d := intRow .i64 (Af r) (L r) (Z r)) (List.mem_map.2 ⟨r, by simpa using hrl, rfl⟩) _ ?_))
          rw [ha]
          simp [intRow, DataW.weights, Tryd.underlying23, bytesInt, lits]
          left
          omega
        have := hw _ hmem
        have hrb : reachBytes = 140737488351232 := rfl
        omega

end Go.Proofs.YtfoohdknjacenaaDoor

namespace Go.Proofs.YtfoohdknjacenaaDoor
open Go.RowKit

theorem rowG_of {α : Type} (mk : α → Value) (d : α) {w : World} {a : Addr} {len cap : Nat} (f : Nat → α) (hl : len ≤ cap) (hm : cap ≤ maxLen) (hc : ∀ i, i < len → w.cell? (a.add i) = some (mk (f i))) :
    RowGAt mk d w (some a) cap ((List.range len).map f) := by
  refine ⟨by simpa using hl, hm, ?_⟩
  rcases Nat.eq_zero_or_pos len with h0 | h0
  · left; simp [h0]
  · right
    obtain ⟨b, off, spot⟩ := a
    have h1 := hc 0 h0
    have hs : spot = none := by simpa [Addr.add] using World.cell?_spot h1
    subst hs
    refine ⟨b, off, rfl, World.block_lt_of_cell? w _ h1, fun i hi => ?_⟩
    have hi' : i < len := by simpa using hi
    have h2 := hc i hi'
    have he : (⟨b, off, none⟩ : Addr).add i = ⟨b, off + i, none⟩ := by
      by_cases e : i = 0
      · subst e; rfl
      · simp [Addr.add, e]
    rw [he] at h2
    rw [h2]
    simp [List.getD, hi']

theorem open_bytes {H : Type} {enc : TypeId × Value → H} {W : World} {n : Nat} {v : Value} {y : DataW H × List MemPlace} (h : DataW.trod enc Tryd.prog W 0 (fun _ => true) true n 34 [v] = some y) :
    ∃ xs : List Int, RowG (Value.int .u8) 0 W v xs ∧ Bts xs := by
  rcases Go.ChangeShapes.open_ints Tryd.underlying34 Tryd.underlying5 (by kernel_rfl) h with ⟨hcs, _⟩ | ⟨a, len, cap, zs, hcs, _, hl, hm, hz, _, hc, hw⟩
  · simp at hcs
    subst hcs
    exact ⟨[], RowG.nil _ _ _, Bts.nil⟩
  · simp at hcs
    subst hcs
    simp only [if_true] at hz
    have hr := rowG_of (Value.int .u8) 0 (w := W) (a := a) (len := len) (fun i => zs.getD i 0) hl hm (fun i hi => hc i (by omega))
    refine ⟨(List.range len).map fun i => zs.getD i 0, ⟨some a, cap, by simp, hr⟩, fun x hx => ?_⟩
    obtain ⟨i, hi, rfl⟩ := List.mem_map.1 hx
    have hi' : i < zs.length := by have := List.mem_range.1 hi; omega
    exact bounds_u8 (hw _ (by simp [List.getD, hi']))

theorem open_boolsG {H : Type} {enc : TypeId × Value → H} {W : World} {n : Nat} {v : Value} {y : DataW H × List MemPlace} (h : DataW.trod enc Tryd.prog W 0 (fun _ => true) true n 22 [v] = some y) :
    ∃ xs : List Bool, RowG Value.bool false W v xs := by
  rcases Go.Deep.open_bools Tryd.underlying22 Tryd.underlying4 (by kernel_rfl) h with ⟨hcs, _⟩ | ⟨a, len, cap, B, hcs, _, hl, hm, _, hc⟩
  · simp at hcs
    subst hcs
    exact ⟨[], RowG.nil _ _ _⟩
  · simp at hcs
    subst hcs
    exact ⟨(List.range len).map B, some a, cap, by simp, rowG_of Value.bool false (w := W) (a := a) (len := len) B hl hm (fun i hi => hc i (by omega))⟩
end Go.Proofs.YtfoohdknjacenaaDoor
