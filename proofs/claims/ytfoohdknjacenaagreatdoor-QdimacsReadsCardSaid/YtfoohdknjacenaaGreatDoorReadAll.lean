/- What the laws of chapter 5 share: 'first' answers true. Conditions: the errors and the table of powers of ten lie as the program lays them. · Contracts of the document's own skolemref.SameBlock, SameBlocks, SameFormula at the same blocks and clauses: true. Conditions: both sides read as these. · From the way in which an argument is handed over to 'RowG': slices of bytes, slices of bools. No conditions beyond those typed. · Where the errors lie, and the table of powers of ten, from the row's condition. No conditions beyond those typed. · The walk of skolemlaw5.QdimacsReads: it answers true. Conditions: the slice reads as bytes; the errors and the table of powers of ten lie as the program lays them. -/
import Derived.Test.YtfoohdknjacenaaGreatDoorBytesF
import Derived.Test.YtfoohdknjacenaaGreatDoorReadF
import Derived.Test.YtfoohdknjacenaaGreatDoorSee
import Derived.Test.YtfoohdknjacenaaGreatDoorFault
import Derived.Test.YtfoohdknjacenaaGreatDoorBlkM
import Derived.Test.YtfoohdknjacenaaGreatDoorSameCl
import Derived.Test.YtfoohdknjacenaaGreatDoorGen
import Derived.Test.YtfoohdknjacenaaGreatDoorStr
import Derived.Test.YtfoohdknjacenaaGreatDoorRows
import Derived.OpenShut
import Derived.Deep.Grids
import Derived.Test.YtfoohdknjacenaaGreatDoorErr8
import Derived.Test.YtfoohdknjacenaaGreatDoorAppI
import Derived.Stop.LaidErr
import Derived.Test.YtfoohdknjacenaaGreatDoorRefF
namespace Go.Proofs.YtfoohdknjacenaaGreatDoor
open Go.RowKit

theorem readF_nil : readFL [] = (0, [], [], [], .text 0) := by
  have hw : wordsL true [] = [] := splitL_nil _ _ _ _
  have hh : headL [] = (0, 0, .text 0) := by unfold headL; rw [if_pos (fun h => absurd h.1 (by simp))]
  unfold readFL
  rw [hw, hh]
  rfl
theorem fText_pos (v : Int) (bs : List Blk) (xss : List (List Int)) : 0 < (fTextL v bs xss).length := by
  unfold fTextL headT
  simp
theorem itoa0 : itoaL 0 = [48] := by rw [itoaL_pos (by omega)]; exact decL_small (by decide)
theorem fText_zero : (fTextL 0 [] []).length ≤ 10000 := by
  unfold fTextL headT
  rw [List.length_nil, show ((0 : Nat) : Int) = 0 from rfl, itoa0]
  decide

set_option maxHeartbeats 1000000 in
theorem first5_any (A : Nat → Addr) (w : World) (hS : Sents8 w A) (ht : Tabs w) : Calls Tryz.prog 6 #[] w fun e w' => e = .returned (.bool true) ∧ Below w.heap.size w w' := by
  have HR := Lib.hid (readF_any A (.slice none 0 0) [] w hS (RowG.nil _ _ _) Bts.nil (by simp))
  rw [readF_nil] at HR
  have HP := Lib.hid (fun W => placed_any 101 0 W (by omega))
  have HY := Lib.hid (fun ev W (h : ErrAs W ev 101 true 0) => see_yes ev 101 true 0 W h)
  have HSS := Lib.hid (fun W (hW : Below w.heap.size w W) => (hS.keep hW).toSents)
  have HBY : Hid (∀ W, Below w.heap.size w W → Calls Tryz.prog 14 #[.agg #[.slice none 0 0, .int .i64 0, .slice none 0 0]] W fun e w' => (∃ a k c, e = .returned (.slice a k c) ∧ 0 < k) ∧ Below W.heap.size W w') := fun W hW => by
    refine (bytesF_any 0 none 0 [] none 0 [] W (by omega) (BRowsAt.nil W) ⟨Nat.le_refl _, by unfold maxLen; omega, .inl rfl⟩ (by simp) (by simp) fText_zero (by simp) (by simp) (ht.keep hW)).mono ?_
    rintro e w' ⟨⟨v, rfl, ho⟩, hb⟩
    obtain ⟨a, k, c, rfl, hk, _⟩ := bopen ho
    exact ⟨⟨a, k, c, rfl, by rw [hk]; exact fText_pos _ _ _⟩, hb⟩
  unfold RFPost at HR
  clear hS ht
  go_enter Tryz.func6, Tryz.ntmps6
  go_wp2_with (first
    | (go_at_call 7; refine HR.out.mono ?_; rintro e w1 ⟨⟨bv, cv, ov, rfl, hB, hC, hO⟩, hb1⟩; obtain ⟨a8, c8, rfl, _⟩ := hB.rows; obtain ⟨a9, c9, rfl, _⟩ := hC.rows; have hs1 := hb1.size; have hE := hO.err (HSS.out _ hb1))
    | (go_at_call 21; refine (HP.out _).mono ?_; rintro e w2 ⟨rfl, hb2⟩; have hq : Below w1.heap.size w1 w2 := ((Below.refl _ w1).alloc (Nat.le_refl _) _).trans (hb2.mono (by simp)))
    | (go_at_call 10; refine (HY.out _ _ (hE.keep hq)).mono ?_; rintro e w3 ⟨rfl, hb3⟩; have hq3 := hb1.trans ((hq.trans (hb3.mono hq.size)).mono hs1))
    | (go_at_call 14; refine (HBY.out _ hq3).mono ?_; rintro e w4 ⟨⟨a7, k7, c7, rfl, hk7⟩, hb4⟩; have hk8 : (0 : Int) < k7 := (by omega)))
  (try go_ret)
  exact ⟨rfl, hq3.trans (hb4.mono hq3.size)⟩
end Go.Proofs.YtfoohdknjacenaaGreatDoor

namespace Go.Proofs.YtfoohdknjacenaaGreatDoor
open Go.RowKit

set_option maxHeartbeats 2000000 in
theorem sameBlock_yes (e : Bool) (v u : Value) (l : List Int) (w : World) (hv : Row w v l) (hu : Row w u l) :
    Calls Tryz.prog 62 #[.agg #[.bool e, v], .agg #[.bool e, u]] w fun r w' => r = .returned (.bool true) ∧ Below w.heap.size w w' := by
  have HB := Lib.hid (fun o1 o2 => show Below w.heap.size w ((w.alloc o1).alloc o2) from ((Below.refl _ w).alloc (Nat.le_refl _) _).alloc (by simp) _)
  have HS := Lib.hid (fun W (hW : Below w.heap.size w W) => sameInts_any v u l l W (hv.keep hW) (hu.keep hW))
  obtain ⟨av, cv, rfl, _⟩ := hv
  obtain ⟨au, cu, rfl, _⟩ := hu
  have hd : decide (l = l) = true := by simp
  rw [hd] at HS
  clear hd
  have hee : (e == e) = true := by simp
  generalize l.length = n at *
  go_enter Tryz.func62, Tryz.ntmps62
  go_wp2_with (go_at_call 73; refine (HS.out _ (HB.out _ _)).mono ?_; rintro e2 w2 ⟨rfl, hw2⟩)
  go_ret
  exact ⟨rfl, (HB.out _ _).trans ((below_draws hw2).mono (by simp; omega))⟩

set_option maxHeartbeats 2000000 in
theorem sameBlocks_yes (a a' : Option Addr) (c c' : Nat) (bs : List Blk) (w : World) (hv : BRowsAt w a c bs) (hu : BRowsAt w a' c' bs) :
    Calls Tryz.prog 33 #[.slice a bs.length c, .slice a' bs.length c'] w fun e w' => e = .returned (.bool true) ∧ Below w.heap.size w w' := by
  obtain ⟨h1, h2, h3⟩ := hv
  obtain ⟨h4, h5, h6⟩ := hu
  unfold maxLen at h2 h5
  have h1c : ((bs.length : Int) != bs.length) = false := by simp
  have HV := Lib.hid h3; clear h3
  have HU := Lib.hid h6; clear h6
  generalize hn : bs.length = n at *
  clear hn
  go_enter Tryz.func33, Tryz.ntmps33
  go_wp2_with fail
  go_loopw [5] (fun i wr => ∃ k : Nat, k ≤ n ∧ i = .int .i64 k ∧ Below w.heap.size w wr) (fun i _ => n - (intOf i).toNat)
  case atStart => exact ⟨0, Nat.zero_le _, rfl, Below.refl _ _⟩
  case round =>
    obtain ⟨k, hk, rfl, hbr⟩ := hrel
    by_cases hlt : k < n
    · obtain ⟨b, off, e1, hb, hc⟩ := HV.out.resolve_left (by omega)
      obtain ⟨b', off', e2, hb', hc'⟩ := HU.out.resolve_left (by omega)
      subst e1; subst e2
      obtain ⟨q1, v, g1, r1⟩ := hc k hlt
      obtain ⟨q2, u, g2, r2⟩ := hc' k hlt
      have q1' := (hbr.cell (p := ⟨b, off + k * 2, none⟩) hb).trans q1
      have q2' := (hbr.cell (p := ⟨b', off' + k * 2, none⟩) hb').trans q2
      have g1' := (hbr.cell (p := ⟨b, off + k * 2 + 1, none⟩) hb).trans g1
      have g2' := (hbr.cell (p := ⟨b', off' + k * 2 + 1, none⟩) hb').trans g2
      have HS := Lib.hid (fun W (hW : Below w.heap.size w W) => sameBlock_yes (bs.getD k blk0).1 v u _ W (r1.keep hW) (r2.keep hW))
      obtain ⟨av, cv, rfl, _⟩ := r1
      obtain ⟨au, cu, rfl, _⟩ := r2
      have hkc : (k : Int) < n := by omega
      clear q1 q2 g1 g2 hc hc'
      generalize (bs.getD k blk0).2 = ys at *
      generalize (bs.getD k blk0).1 = ex at *
      generalize ys.length = m at *
      go_wp2_with fail
      go_region_with (go_at_call 62; refine (HS.out _ (by first | exact hbr | exact hbr.drew | exact below_drewN hbr _)).mono ?_; rintro e w2 ⟨rfl, hw2⟩; have hb2 := (show Below w.heap.size w _ by first | exact hbr.drew | exact hbr).trans (hw2.mono (by have := hbr.size; simpa using this)))
      all_goals
        clear hw2
        go_wp2_with fail
      all_goals exact ⟨⟨k + 1, by omega, by go_num, hb2⟩, by simp [intOf]; omega⟩
    · have hkn : k = n := by omega
      subst hkn
      go_wp2_with fail
      go_ret
      exact ⟨rfl, hbr⟩

set_option maxHeartbeats 1000000 in
theorem sameFormula_yes (vars : Int) (q q' : Option Addr) (d d' : Nat) (bs : List Blk) (a a' : Option Addr) (c c' : Nat) (xss : List (List Int)) (w : World) (hb : BRowsAt w q d bs) (hb' : BRowsAt w q' d' bs) (hv : RowsAt w a c xss) (hu : RowsAt w a' c' xss) :
    Calls Tryz.prog 9 #[.agg #[.slice q bs.length d, .int .i64 vars, .slice a xss.length c], .agg #[.slice q' bs.length d', .int .i64 vars, .slice a' xss.length c']] w fun e w' => e = .returned (.bool true) ∧ Below w.heap.size w w' := by
  have HS := Lib.hid (fun W (hW : Below w.heap.size w W) => sameCNF_yes vars a a' c c' xss W (hv.keep hW) (hu.keep hW))
  have HT := Lib.hid (fun W (hW : Below w.heap.size w W) => sameBlocks_yes q q' d d' bs W (hb.keep hW) (hb'.keep hW))
  have HB := Lib.hid (fun o1 o2 => show Below w.heap.size w ((w.alloc o1).alloc o2) from ((Below.refl _ w).alloc (Nat.le_refl _) _).alloc (by simp) _)
  have HC1 : Hid (∀ (W : World) (x y z x' y' z' : Value) (T : TypeId), Below ((w.alloc (.cells #[x, y, z] T)).alloc (.cells #[x', y', z'] T)).heap.size ((w.alloc (.cells #[x, y, z] T)).alloc (.cells #[x', y', z'] T)) W → W.cell? ⟨w.heap.size, 1, none⟩ = some y ∧ W.cell? ⟨w.heap.size, 2, none⟩ = some z ∧ W.cell? ⟨w.heap.size + 1, 1, none⟩ = some y' ∧ W.cell? ⟨w.heap.size + 1, 2, none⟩ = some z') := fun W x y z x' y' z' T h => by
    have h1 := cells3 w W x y z T (((Below.refl _ _).alloc (Nat.le_refl _) _).trans (h.mono (by simp)))
    have h2 := cells3 (w.alloc (.cells #[x, y, z] T)) W x' y' z' T h
    rw [show (w.alloc (.cells #[x, y, z] T)).heap.size = w.heap.size + 1 by simp] at h2
    exact ⟨h1.2.1, h1.2.2, h2.2.1, h2.2.2⟩
  clear hv hu hb hb'
  generalize xss.length = n at *
  generalize bs.length = m at *
  go_enter Tryz.func9, Tryz.ntmps9
  go_wp2_with (first
    | (go_at_call 33; refine (HT.out _ (HB.out _ _)).mono ?_; rintro e w1 ⟨rfl, hb1⟩; have hbw1 := (HB.out _ _).trans (hb1.mono (by simp; omega)); obtain ⟨g1, g2, g3, g4⟩ := HC1.out _ _ _ _ _ _ _ _ hb1)
    | (go_at_call 20; refine (HS.out _ hbw1).mono ?_; rintro e w2 ⟨rfl, hb2⟩))
  go_ret
  exact ⟨rfl, hbw1.trans (hb2.mono hbw1.size)⟩
end Go.Proofs.YtfoohdknjacenaaGreatDoor

namespace Go.Proofs.YtfoohdknjacenaaGreatDoor
open Go.RowKit

theorem rowG_of {α : Type} (mk : α → Value) (d : α) {w : World} {a : Addr} {len cap : Nat} (f : Nat → α) (hl : len ≤ cap) (hm : cap ≤ maxLen) (hc : ∀ i, i < len → w.cell? (a.add i) = some (mk (f i))) :
    RowGAt mk d w (some a) cap ((List.range len).map f) := by
  refine ⟨by simpa using hl, hm, ?_⟩
  rcases Nat.eq_zero_or_pos len with h0 | h0
  · left; simp [h0]
  · right
    obtain ⟨b, off, spot⟩ := a
    have h1 := hc 0 h0
    have hs : spot = none := by simpa [Addr.add] using World.cell?_spot h1
    subst hs
    refine ⟨b, off, rfl, World.block_lt_of_cell? w _ h1, fun i hi => ?_⟩
    have hi' : i < len := by simpa using hi
    have h2 := hc i hi'
    have he : (⟨b, off, none⟩ : Addr).add i = ⟨b, off + i, none⟩ := by
      by_cases e : i = 0
      · subst e; rfl
      · simp [Addr.add, e]
    rw [he] at h2
    rw [h2]
    simp [List.getD, hi']

theorem open_bytes {H : Type} {enc : TypeId × Value → H} {W : World} {n : Nat} {v : Value} {y : DataW H × List MemPlace} (h : DataW.trod enc Tryz.prog W 0 (fun _ => true) true n 22 [v] = some y) :
    ∃ xs : List Int, RowG (Value.int .u8) 0 W v xs ∧ Bts xs := by
  rcases Go.ChangeShapes.open_ints Tryz.underlying22 Tryz.underlying5 (by kernel_rfl) h with ⟨hcs, _⟩ | ⟨a, len, cap, zs, hcs, _, hl, hm, hz, _, hc, hw⟩
  · simp at hcs
    subst hcs
    exact ⟨[], RowG.nil _ _ _, Bts.nil⟩
  · simp at hcs
    subst hcs
    simp only [if_true] at hz
    have hr := rowG_of (Value.int .u8) 0 (w := W) (a := a) (len := len) (fun i => zs.getD i 0) hl hm (fun i hi => hc i (by omega))
    refine ⟨(List.range len).map fun i => zs.getD i 0, ⟨some a, cap, by simp, hr⟩, fun x hx => ?_⟩
    obtain ⟨i, hi, rfl⟩ := List.mem_map.1 hx
    have hi' : i < zs.length := by have := List.mem_range.1 hi; omega
    exact bounds_u8 (hw _ (by simp [List.getD, hi']))

theorem open_boolsG {H : Type} {enc : TypeId × Value → H} {W : World} {n : Nat} {v : Value} {y : DataW H × List MemPlace} (h : DataW.trod enc Tryz.prog W 0 (fun _ => true) true n 83 [v] = some y) :
    ∃ xs : List Bool, RowG Value.bool false W v xs := by
  rcases Go.Deep.open_bools Tryz.underlying83 Tryz.underlying4 (by kernel_rfl) h with ⟨hcs, _⟩ | ⟨a, len, cap, B, hcs, _, hl, hm, _, hc⟩
  · simp at hcs
    subst hcs
    exact ⟨[], RowG.nil _ _ _⟩
  · simp at hcs
    subst hcs
    exact ⟨(List.range len).map B, some a, cap, by simp, rowG_of Value.bool false (w := W) (a := a) (len := len) B hl hm (fun i hi => hc i (by omega))⟩
end Go.Proofs.YtfoohdknjacenaaGreatDoor

namespace Go.Proofs.YtfoohdknjacenaaGreatDoor
open Go.RowKit

def tabL : List (String × DataW Unit) := [("math/bits.deBruijn32tab", Rows.laid_math_bits_deBruijn32tab), ("math/bits.deBruijn64tab", Rows.laid_math_bits_deBruijn64tab), ("internal/strconv.uint64pow10", Rows.laid_internal_strconv_uint64pow10)]
theorem gpow : Tryz.prog.globalNamed "internal/strconv.uint64pow10" = some 10 := by kernel_rfl
theorem gpowT : (Tryz.prog.globals[10]?).map (·.type) = some 171 := by kernel_rfl
theorem tabs8_met {W : World} {H : List (String × DataW Unit)} (h : laidMet Tryz.prog (tabL ++ sentL8.map sentD) W)
    (hH : handlesMet Tryz.prog H W) (hm : ("errors.errorType", (.iface "internal/reflectlite.rtype" (.agg [.ptr (.lit (.string [101, 114, 114, 111, 114]))]) : DataW Unit)) ∈ H) : ∃ A, Sents8 W A ∧ Tabs W := by
  have h2 : laidMet Tryz.prog (("internal/strconv.uint64pow10", Lib.tabData .u64 Lib.pow10Tab) :: sentL8.map sentD) W := h.tail.tail
  have ht : Lib.TabIs Tryz.prog W "internal/strconv.uint64pow10" .u64 Lib.pow10Tab := Lib.tabIs_of_head gpow gpowT Tryz.underlying171 Tryz.underlying147 (by kernel_rfl) (by kernel_rfl) h2
  obtain ⟨ps, hl, hnd, hrows⟩ := h2.tail
  obtain ⟨A, hS⟩ := sents8_met hl hnd hrows hH hm
  exact ⟨A, hS, Lib.tabBelow_of_tabIs ht⟩
end Go.Proofs.YtfoohdknjacenaaGreatDoor

namespace Go.Proofs.YtfoohdknjacenaaGreatDoor
open Go.RowKit

set_option maxHeartbeats 4000000 in
theorem readsF_in (A : Nat → Addr) (a : Option Addr) (c : Nat) (xs : List Int) (w : World) (hS : Sents8 w A) (ht : Tabs w) (hv : RowGAt (Value.int .u8) 0 w a c xs) (hb : Bts xs) (hn : xs.length ≤ 400) :
    Calls Tryz.prog 3 #[.slice a xs.length c] w fun e w' => e = .returned (.bool true) ∧ Below w.heap.size w w' := by
  have HF := Lib.hid (first5_any A w hS ht)
  have HRD := Lib.hid (fun W (hW : Below w.heap.size w W) => readF_any A (.slice a xs.length c) xs W (hS.keep hW) ⟨a, c, rfl, hv.keep hW⟩ hb (by omega))
  have HRR := Lib.hid (fun W (hW : Below w.heap.size w W) => refReadF_any (.slice a xs.length c) xs W ⟨a, c, rfl, hv.keep hW⟩ hb (by omega))
  have HSN := Lib.hid (fun W (hW : Below w.heap.size w W) => (hS.keep hW).toSents)
  have HY := Lib.hid (fun ev c p k W (h : ErrAs W ev c p k) => see_yes ev c p k W h)
  have HOE := Lib.hid (fun (B : Nat) (W : World) ws e ov (f : Flt) (hs : Sents W A) (h : OutV A B W ws e ov f) => OutV.err h hs)
  unfold RFPost at HRD
  unfold RRFPost at HRR
  have hnb : decide ((400 : Int) < xs.length) = false := by simp; omega
  clear hS ht hv hb
  generalize xs.length = n at *
  generalize readFL xs = R at *
  obtain ⟨rv, bs, cl, ws, f⟩ := R
  dsimp only at HRD HRR
  have HFV := Lib.hid (show fltV ws n f = .agg #[.int .i64 f.code, .bool f.placed, .int .i64 (f.pos ws n)] from rfl)
  rw [HFV.out] at HRR
  have HOE' := Lib.hid (fun B W ov hs h => HOE.out B W ws n ov f hs h)
  clear HOE HFV
  generalize OutV A = OV at *
  generalize f.code = c1 at *
  generalize f.placed = p1 at *
  generalize f.pos ws n = k1 at *
  go_enter Tryz.func3, Tryz.ntmps3
  go_wp2_with (first
    | (go_at_call 6; refine HF.out.mono ?_; rintro e w1 ⟨rfl, hb1⟩)
    | (go_at_call 7; refine (HRD.out _ hb1).mono ?_; rintro e w2 ⟨⟨bv, cv, ov, rfl, hB, hC, hO⟩, hb2⟩; have HW2 := hb1.trans (hb2.mono hb1.size); have hs2 := HW2.size; have HE1 := Lib.hid (HOE'.out _ _ _ (HSN.out _ HW2) hO); obtain ⟨a8, c8, rfl, hRB⟩ := hB.rows; obtain ⟨a9, c9, rfl, hRC⟩ := hC.rows)
    | (go_at_call 8; refine (HRR.out _ (HW2.alloc hs2 _)).mono ?_; rintro e w3 ⟨⟨bv3, cv3, rfl, hB3, hC3⟩, hb3⟩; have HW3 := (HW2.alloc hs2 _).trans (hb3.mono (by simp; omega)); have hs3 := HW3.size; obtain ⟨a6, c6, rfl, hRB3⟩ := hB3.rows; obtain ⟨a7, c7, rfl, hRC3⟩ := hC3.rows; obtain ⟨g0, g1, g2⟩ := cells3 w2 w3 _ _ _ _ hb3; have hx2 : Below w2.heap.size w2 w3 := ((Below.refl _ w2).alloc (Nat.le_refl _) _).trans (hb3.mono (by simp)); have hy3 := (((Below.refl w3.heap.size w3).alloc (Nat.le_refl _) (.cells #[.slice a6 bs.length c6, .int .i64 rv, .slice a7 cl.length c7] 29)).alloc (by simp) (.cells #[.int .i64 c1, .bool p1, .int .i64 k1] 35)); have hy3s := hy3.size; have hl3 : w2.heap.size < w3.heap.size := (by have := hb3.size; simp at this; omega); have g0' := (hy3.cell (p := ⟨w2.heap.size, 0, none⟩) hl3).trans g0; have g1' := (hy3.cell (p := ⟨w2.heap.size, 1, none⟩) hl3).trans g1; have g2' := (hy3.cell (p := ⟨w2.heap.size, 2, none⟩) hl3).trans g2)
    | (go_at_call 9; refine (sameFormula_yes _ _ _ _ _ bs _ _ _ _ cl _ (hRB.keep (hx2.trans (hy3.mono hx2.size))) (hRB3.keep hy3) (hRC.keep (hx2.trans (hy3.mono hx2.size))) (hRC3.keep hy3)).mono ?_; rintro e w4 ⟨rfl, hb4⟩; have hz4 := hy3.trans (hb4.mono hy3s); have HW4 := HW3.trans (hz4.mono hs3); have HE4 := HE1.out.keep (hx2.trans (hz4.mono hx2.size)); obtain ⟨g5, g6, g7⟩ := cells3 (w3.alloc (.cells #[.slice a6 bs.length c6, .int .i64 rv, .slice a7 cl.length c7] 29)) w4 _ _ _ _ hb4; simp at g5 g6 g7)
    | (go_at_call 10; refine (HY.out _ _ _ _ _ HE4).mono ?_; rintro e w5 ⟨rfl, hb5⟩))
  (try go_ret)
  exact ⟨rfl, HW4.trans (hb5.mono HW4.size)⟩

set_option maxHeartbeats 2000000 in
theorem lawReadF (A : Nat → Addr) (a : Option Addr) (c : Nat) (xs : List Int) (w : World) (hS : Sents8 w A) (ht : Tabs w) (hv : RowGAt (Value.int .u8) 0 w a c xs) (hb : Bts xs) :
    Calls Tryz.prog 3 #[.slice a xs.length c] w fun e w' => e = .returned (.bool true) ∧ Below w.heap.size w w' := by
  have HF := Lib.hid (first5_any A w hS ht)
  by_cases hn : 400 < xs.length
  · have hnb : decide ((400 : Int) < xs.length) = true := by simp; omega
    clear hS hv hb ht
    generalize xs.length = n at *
    go_enter Tryz.func3, Tryz.ntmps3
    go_wp2_with (go_at_call 6; refine HF.out.mono ?_; rintro e w1 ⟨rfl, hb1⟩)
    (try go_ret)
    exact ⟨rfl, hb1⟩
  · exact readsF_in A a c xs w hS ht hv hb (by omega)
end Go.Proofs.YtfoohdknjacenaaGreatDoor
