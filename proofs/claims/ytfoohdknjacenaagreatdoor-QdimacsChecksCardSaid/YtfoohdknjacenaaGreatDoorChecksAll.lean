/- What the laws of chapter 5 share: 'first' answers true. Conditions: the errors and the table of powers of ten lie as the program lays them. · The contract of the document's own skolemref1.FormulaBytes: the text ('fTextL'). Conditions: the formula reads as lists of small ints; the text is not too long; the table of powers of ten is as the program lays it. · Contracts of the document's own skolemref.SameBlock, SameBlocks, SameFormula at the same blocks and clauses: true. Conditions: both sides read as these. · The contract of lits.Check: which fault it tells. Conditions: the clauses read as lists of 64-bit ints, short ones; the package's errors lie as 'Sents' says. · The contract of qdimacs.Check: which fault it tells. Conditions: the formula reads as lists of 64-bit ints, short ones; the package's errors lie as 'Sents8' says. · Contracts of the document's own skolemref1.at, text, plain, Head. Conditions: the slice reads as words, each of some bytes. · Contracts of the document's own skolemref1.Head. Conditions: the slice reads as words, each of some bytes. · Contracts of the document's own skolemref1.Is, Clauses. Conditions: the slice reads as words, each of some bytes. · The contract of skolemmake.Near: whether all ints of the slice are at least -2^60. Conditions: the slice reads as the list named. · Contracts of skolemmake.NearAll, skolemmake.Count and of the document's own skolemref1.CheckCNF. Conditions: the clauses read as lists of 64-bit ints, few and short ones. · The contract of the document's own skolemref1.CheckFormula: which fault it tells. Conditions: the formula reads as lists of 64-bit ints, few and short ones. · The contract of skolemlaw5.light: is a formula small. Conditions: the formula reads as lists of 64-bit ints, their reach as it is. · Plain facts: a light formula that Check finds right has a short text, which reads as the formula. Nothing of the program. · The walk of skolemlaw5.QdimacsChecks: it answers true. Conditions: the formula reads as lists of 64-bit ints, short ones; the errors and the table of powers of ten lie as the program lays them. · From the way in which an argument is handed over (a row of ints in memory) to 'RowAt'. No conditions beyond those typed. · From the way in which an argument is handed over (a row of ints, a slice of such rows) to 'RowAt', 'RowsAt', with the rows' bounds and the reach. No conditions beyond those typed. · From the way in which a formula is handed over as an argument (blocks, variables, clauses) to 'BRowsAt', 'RowsAt', with the bounds and the reach. No conditions beyond those typed. -/
import Derived.Test.YtfoohdknjacenaaGreatDoorBlkB
import Derived.Test.YtfoohdknjacenaaGreatDoorReadF
import Derived.Test.YtfoohdknjacenaaGreatDoorSee
import Derived.Test.YtfoohdknjacenaaGreatDoorFault
import Derived.Test.YtfoohdknjacenaaGreatDoorBytesH
import Derived.Test.YtfoohdknjacenaaGreatDoorBlkM
import Derived.Test.YtfoohdknjacenaaGreatDoorSameCl
import Derived.Test.YtfoohdknjacenaaGreatDoorCheckP
import Derived.Test.YtfoohdknjacenaaGreatDoorSmall
import Derived.Test.YtfoohdknjacenaaGreatDoorBlkT
import Derived.Test.YtfoohdknjacenaaGreatDoorBlkD
import Derived.Test.YtfoohdknjacenaaGreatDoorReadD
import Derived.Test.YtfoohdknjacenaaGreatDoorBase
import Derived.Test.YtfoohdknjacenaaGreatDoorChecked
import Derived.Lib.Hide
import Derived.Test.YtfoohdknjacenaaGreatDoorRead
import Derived.Laws.ResultCell
import Derived.Test.YtfoohdknjacenaaGreatDoorFormP
import Derived.Test.YtfoohdknjacenaaGreatDoorTextQ
import Derived.OpenShut
import Derived.Test.YtfoohdknjacenaaGreatDoorRows
import Derived.Deep.Matrix
import Derived.SizedLaws
import Derived.Lib.SmallJoins
import Derived.Deep.SlicePairs
namespace Go.Proofs.YtfoohdknjacenaaGreatDoor
open Go.RowKit

theorem readF_nil : readFL [] = (0, [], [], [], .text 0) := by
  have hw : wordsL true [] = [] := splitL_nil _ _ _ _
  have hh : headL [] = (0, 0, .text 0) := by unfold headL; rw [if_pos (fun h => absurd h.1 (by simp))]
  unfold readFL
  rw [hw, hh]
  rfl
theorem fText_pos (v : Int) (bs : List Blk) (xss : List (List Int)) : 0 < (fTextL v bs xss).length := by
  unfold fTextL headT
  simp
theorem itoa0 : itoaL 0 = [48] := by rw [itoaL_pos (by omega)]; exact decL_small (by decide)
theorem fText_zero : (fTextL 0 [] []).length ≤ 10000 := by
  unfold fTextL headT
  rw [List.length_nil, show ((0 : Nat) : Int) = 0 from rfl, itoa0]
  decide

set_option maxHeartbeats 1000000 in
theorem first5_any (A : Nat → Addr) (w : World) (hS : Sents8 w A) (ht : Tabs w) : Calls Tryz.prog 6 #[] w fun e w' => e = .returned (.bool true) ∧ Below w.heap.size w w' := by
  have HR := Lib.hid (readF_any A (.slice none 0 0) [] w hS (RowG.nil _ _ _) Bts.nil (by simp))
  rw [readF_nil] at HR
  have HP := Lib.hid (fun W => placed_any 101 0 W (by omega))
  have HY := Lib.hid (fun ev W (h : ErrAs W ev 101 true 0) => see_yes ev 101 true 0 W h)
  have HSS := Lib.hid (fun W (hW : Below w.heap.size w W) => (hS.keep hW).toSents)
  have HBY : Hid (∀ W, Below w.heap.size w W → Calls Tryz.prog 14 #[.agg #[.slice none 0 0, .int .i64 0, .slice none 0 0]] W fun e w' => (∃ a k c, e = .returned (.slice a k c) ∧ 0 < k) ∧ Below W.heap.size W w') := fun W hW => by
    refine (bytesF_any 0 none 0 [] none 0 [] W (by omega) (BRowsAt.nil W) ⟨Nat.le_refl _, by unfold maxLen; omega, .inl rfl⟩ (by simp) (by simp) fText_zero (by simp) (by simp) (ht.keep hW)).mono ?_
    rintro e w' ⟨⟨v, rfl, ho⟩, hb⟩
    obtain ⟨a, k, c, rfl, hk, _⟩ := bopen ho
    exact ⟨⟨a, k, c, rfl, by rw [hk]; exact fText_pos _ _ _⟩, hb⟩
  unfold RFPost at HR
  clear hS ht
  go_enter Tryz.func6, Tryz.ntmps6
  go_wp2_with (first
    | (go_at_call 7; refine HR.out.mono ?_; rintro e w1 ⟨⟨bv, cv, ov, rfl, hB, hC, hO⟩, hb1⟩; obtain ⟨a8, c8, rfl, _⟩ := hB.rows; obtain ⟨a9, c9, rfl, _⟩ := hC.rows; have hs1 := hb1.size; have hE := hO.err (HSS.out _ hb1))
    | (go_at_call 21; refine (HP.out _).mono ?_; rintro e w2 ⟨rfl, hb2⟩; have hq : Below w1.heap.size w1 w2 := ((Below.refl _ w1).alloc (Nat.le_refl _) _).trans (hb2.mono (by simp)))
    | (go_at_call 10; refine (HY.out _ _ (hE.keep hq)).mono ?_; rintro e w3 ⟨rfl, hb3⟩; have hq3 := hb1.trans ((hq.trans (hb3.mono hq.size)).mono hs1))
    | (go_at_call 14; refine (HBY.out _ hq3).mono ?_; rintro e w4 ⟨⟨a7, k7, c7, rfl, hk7⟩, hb4⟩; have hk8 : (0 : Int) < k7 := (by omega)))
  (try go_ret)
  exact ⟨rfl, hq3.trans (hb4.mono hq3.size)⟩
end Go.Proofs.YtfoohdknjacenaaGreatDoor

namespace Go.Proofs.YtfoohdknjacenaaGreatDoor
open Go.RowKit

def kindB (e : Bool) : Int := if e = true then 101 else 97
theorem kind_let (e : Bool) : letL e = [kindB e] := by cases e <;> rfl
set_option maxRecDepth 8000 in
set_option maxHeartbeats 4000000 in
theorem refBytesF_any (vn : Nat) (q : Option Addr) (d : Nat) (bs : List Blk) (a : Option Addr) (c : Nat) (xss : List (List Int)) (w : World) (hvn : vn < 1000000) (hq : BRowsAt w q d bs) (hr : RowsAt w a c xss) (hib : ∀ b ∈ bs, ∀ l ∈ b.2, -1000000000 < l ∧ l < 1000000000) (hint : ∀ xs ∈ xss, ∀ l ∈ xs, -1000000000 < l ∧ l < 1000000000) (hT : (fTextL vn bs xss).length ≤ 10000) (hn1 : xss.length ≤ 10000) (ht : Tabs w) :
    Calls Tryz.prog 16 #[.agg #[.slice q bs.length d, .int .i64 (vn : Int), .slice a xss.length c]] w fun e w' => (∃ v, e = .returned v ∧ w'.ownsRow w.heap.size 5 1 v (fTextL vn bs xss).length ((fTextL vn bs xss).map (Value.int .u8))) ∧ Below w.heap.size w w' := by
  obtain ⟨hd1, hd2, hq⟩ := hq
  obtain ⟨hc1, hc2, hr⟩ := hr
  unfold maxLen at hc2 hd2
  have HR := Lib.hid hr; clear hr
  have HQ := Lib.hid hq; clear hq
  have HI := Lib.hid hint; clear hint
  have HIB := Lib.hid hib; clear hib
  have HTB := Lib.hid (fun W B (hb : Below w.heap.size w W) (hB : w.heap.size ≤ B) => ht.at B hb hB)
  have HTK := Lib.hid (fun W (hb : Below w.heap.size w W) => ht.keep hb)
  clear ht
  have hlen : (fTextL vn bs xss).length = (headT vn xss.length).length + ((bs.flatMap (blkT [32])).length + (xss.flatMap clsT).length) := by unfold fTextL; simp only [List.length_append]
  have hk0 : ∀ k, (headT vn xss.length ++ (bs.take k).flatMap (blkT [32])).length ≤ 10000 := fun k => by
    have h1 := take_flat_len (blkT [32]) bs k
    rw [List.length_append]; omega
  have hk1 : ∀ k, (headT vn xss.length ++ bs.flatMap (blkT [32]) ++ (xss.take k).flatMap clsT).length ≤ 10000 := fun k => by
    have h1 := take_flat_len clsT xss k
    rw [List.length_append, List.length_append]; omega
  have HK0 := Lib.hid hk0; clear hk0
  have HK1 := Lib.hid hk1; clear hk1
  have HTX : Hid (∀ (v : Value) (W : World) (m : Nat), m = (headT vn xss.length ++ bs.flatMap (blkT [32]) ++ (xss.take xss.length).flatMap clsT).length → W.ownsRow (w.heap.size + 1) 5 1 v m ((headT vn xss.length ++ bs.flatMap (blkT [32]) ++ (xss.take xss.length).flatMap clsT).map (Value.int .u8)) → W.ownsRow w.heap.size 5 1 v (fTextL vn bs xss).length ((fTextL vn bs xss).map (Value.int .u8))) := fun v W m hm h => by
    rw [List.take_length, List.append_assoc] at h hm
    subst hm
    exact own_base h (by omega)
  have HSTEP := Lib.hid (fun k (hk : k < xss.length) => take_flat clsT [] xss k hk)
  have HMEM := Lib.hid (fun k (hk : k < xss.length) => getD_memR (xss := xss) hk)
  have HSTB := Lib.hid (fun k (hk : k < bs.length) => take_flat (blkT [32]) blk0 bs k hk)
  have HMEB := Lib.hid (fun k (hk : k < bs.length) => getD_memB (bs := bs) hk)
  have HALL := Lib.hid (show bs.take bs.length = bs from List.take_length)
  have HHB := Lib.hid (fun W (hW : Below w.heap.size w W) => refHeadB_any vn xss.length a c W hvn hn1 (by have := HK0.out 0; simp at this; simp; omega) (HTK.out W hW))
  clear hlen hT
  generalize hN : xss.length = n at *
  have HN := Lib.hid hN; clear hN
  generalize hNB : bs.length = nb at *
  have HNB := Lib.hid hNB; clear hNB
  have hw0s : (w.alloc (.cells #[.slice q nb d, .int .i64 (vn : Int), .slice a n c] 29)).heap.size = w.heap.size + 1 := by simp
  have HBOX : Hid (∀ W, Below (w.heap.size + 1) (w.alloc (.cells #[.slice q nb d, .int .i64 (vn : Int), .slice a n c] 29)) W → W.cell? ⟨w.heap.size, 0, none⟩ = some (.slice q nb d) ∧ W.cell? ⟨w.heap.size, 1, none⟩ = some (.int .i64 (vn : Int)) ∧ W.cell? ⟨w.heap.size, 2, none⟩ = some (.slice a n c)) := fun W hW => by
    rw [← hw0s] at hW
    exact cells3 w W _ _ _ _ hW
  have HW0 : Hid (Below w.heap.size w (w.alloc (.cells #[.slice q nb d, .int .i64 (vn : Int), .slice a n c] 29))) := (Below.refl _ w).alloc (Nat.le_refl _) _
  have HSZ := Lib.hid hw0s; clear hw0s
  go_enter Tryz.func16, Tryz.ntmps16
  go_wp2_with (go_at_call 47; refine (HHB.out _ HW0.out).mono ?_; rintro e w1 ⟨⟨v1, rfl, hown1⟩, hb1⟩; rw [HSZ.out] at hown1 hb1; have hs1 := hb1.size; rw [HSZ.out] at hs1; obtain ⟨a1, k1, c1, rfl, HK1', HO1⟩ := bopen (own_base hown1 (show w.heap.size + 1 ≤ _ by omega)); clear hown1)
  have HST : Hid (k1 = (headT vn n ++ (bs.take 0).flatMap (blkT [32])).length ∧ w1.ownsRow (w.heap.size + 1) 5 1 (.slice a1 k1 c1) k1 ((headT vn n ++ (bs.take 0).flatMap (blkT [32])).map (Value.int .u8))) := by
    rw [List.take_zero, List.flatMap_nil, List.append_nil]
    exact ⟨HK1'.out, HO1.out⟩
  clear HK1' HO1
  generalize w.alloc (.cells #[.slice q nb d, .int .i64 (vn : Int), .slice a n c] 29) = w0 at *
  go_loopw [3, 4, 5] (fun bv i _ wr => ∃ (k m : Nat) (ab : Option Addr) (cb : Nat), k ≤ nb ∧ i = .int .i64 k ∧ bv = .slice ab m cb ∧ Hid (m = (headT vn n ++ (bs.take k).flatMap (blkT [32])).length ∧ wr.ownsRow (w.heap.size + 1) 5 1 (.slice ab m cb) m ((headT vn n ++ (bs.take k).flatMap (blkT [32])).map (Value.int .u8))) ∧ Below (w.heap.size + 1) w0 wr ∧ w.heap.size + 1 ≤ wr.heap.size) (fun _ i _ _ => nb - (intOf i).toNat)
  case atStart => exact ⟨0, k1, a1, c1, Nat.zero_le _, rfl, rfl, HST.out, hb1, hs1⟩
  case round =>
    obtain ⟨k, m, ab, cb, hk, rfl, rfl, HRO, hzr, hsr⟩ := hrel
    clear HST hb1 hs1
    obtain ⟨hx0, hx1, hx2⟩ := HBOX.out _ hzr
    have hwr : Below w.heap.size w wr := HW0.out.trans (hzr.mono (by omega))
    by_cases hlt : k < nb
    · obtain ⟨b, off, ha, hb, hc⟩ := HQ.out.resolve_left (by omega)
      subst ha
      obtain ⟨f0, v, g1, hv⟩ := hc k hlt
      clear hc
      have f0' := (hwr.cell (p := ⟨b, off + k * 2, none⟩) hb).trans f0
      have g1' := (hwr.cell (p := ⟨b, off + k * 2 + 1, none⟩) hb).trans g1
      have HG1 := Lib.hid g1
      have HSS := Lib.hid (HSTB.out k hlt)
      have HIK := Lib.hid (HIB.out _ (HMEB.out k hlt))
      have HKE := Lib.hid (HK0.out (k + 1))
      rw [HSS.out, blkT_lits, kind_let] at HKE
      have HEQ : Hid (headT vn n ++ (bs.take (k + 1)).flatMap (blkT [32]) = headT vn n ++ (bs.take k).flatMap (blkT [32]) ++ [kindB (bs.getD k blk0).1, 32] ++ clsT (bs.getD k blk0).2) := by
        unfold Hid
        rw [HSS.out, blkT_lits, kind_let]
        simp
      clear f0 g1 HSS
      obtain ⟨av, cv, rfl, hrv⟩ := hv
      generalize hH : headT vn n ++ (bs.take k).flatMap (blkT [32]) = hd at *
      have hlk : (hd ++ [kindB (bs.getD k blk0).1, 32] ++ clsT (bs.getD k blk0).2).length ≤ 10000 := by
        have := HKE.out
        rw [← hH]
        simp only [List.length_append, List.length_cons, List.length_nil] at this ⊢
        omega
      have HLK := Lib.hid hlk; clear hlk
      clear hH HKE
      have HLT := Lib.hid (fun W m' ab' cb' (ho : W.ownsRow (w.heap.size + 1) 5 1 (.slice ab' m' cb') m' ((hd ++ [kindB (bs.getD k blk0).1, 32]).map (Value.int .u8))) (hW : Below w.heap.size w W) (hs : w.heap.size + 1 ≤ W.heap.size) => refLits_any (w.heap.size + 1) m' ab' cb' (hd ++ [kindB (bs.getD k blk0).1, 32]) av cv (bs.getD k blk0).2 W ho hs (fun W' h' => hrv.keep (hW.trans (h'.mono (by omega)))) HIK.out HLK.out (fun W' h' => HTB.out _ _ (hW.trans (h'.mono (by omega))) (by omega)))
      have HLEN := Lib.hid (show (hd ++ [kindB (bs.getD k blk0).1, 32]).length ≤ 10000 by have := HLK.out; rw [List.length_append] at this; omega)
      generalize (bs.getD k blk0).2 = ys at *
      generalize ys.length = ml at *
      clear hrv
      have hkdef : ∃ kb : Int, kindB (bs.getD k blk0).1 = kb ∧ (((bs.getD k blk0).1 = true ∧ kb = 101) ∨ ((bs.getD k blk0).1 = false ∧ kb = 97)) := by
        refine ⟨_, rfl, ?_⟩
        cases (bs.getD k blk0).1
        · exact .inr ⟨rfl, rfl⟩
        · exact .inl ⟨rfl, rfl⟩
      obtain ⟨kb, hkb, hks⟩ := hkdef
      rw [hkb] at HEQ HLT HLEN HLK
      clear hkb
      generalize (bs.getD k blk0).1 = ex at *
      have ha : ∀ k' : Nat, (⟨wr.heap.size, 0, none⟩ : Addr).add k' = ⟨wr.heap.size, k', none⟩ := fun k' => by unfold Addr.add; split <;> simp_all
      have HAD := Lib.hid ha; clear ha
      have hbl : b < wr.heap.size := Nat.lt_of_lt_of_le hb hwr.size
      have hxl : w.heap.size < wr.heap.size := by omega
      rcases hks with ⟨rfl, rfl⟩ | ⟨rfl, rfl⟩
      all_goals
        go_wp2_with fail
        go_region_law (first
          | (refine step_appU rfl _ _ rfl _ (w.heap.size + 1) (.slice ab m cb) m hd ⟨wr.heap.size, 0, none⟩ 2 2 [_, 32] (by exact own_keep HRO.out.2 (by first | exact (Below.refl _ _).alloc (Nat.le_refl _) _ | exact ((Below.refl _ _).alloc (Nat.le_refl _) _).drew | exact ((Below.refl _ _).drew).alloc (by simp) _)) (by simp; omega) (by rw [HRO.out.1]; have := HLEN.out; simp at this ⊢; omega) rfl (by intro q hq; rw [HAD.out]; first | (rw [World.cell?_alloc_at _ _ _ _ (by simp)]; match q, hq with | 0, _ => rfl | 1, _ => rfl) | (simp; match q, hq with | 0, _ => rfl | 1, _ => rfl)) rfl rfl ?_; intro v2 w2 hown2 hb2; have hz2 : Below (w.heap.size + 1) w0 w2 := Below.trans (Below.trans hzr (by first | exact (Below.refl _ _).alloc (by omega) _ | exact ((Below.refl _ _).alloc (by omega) _).drew | exact ((Below.refl _ _).drew).alloc (by simp; omega) _)) (hb2.mono (by omega)); have hw2 := HW0.out.trans (hz2.mono (by omega)); have hs2 : w.heap.size + 1 ≤ w2.heap.size := (by have := hb2.size; simp at this; omega); obtain ⟨a2, k2, c2, rfl, HK2', HO2⟩ := bopen hown2; clear hown2; obtain ⟨hy0, hy1, hy2⟩ := HBOX.out _ hz2; have gv2 := (hw2.cell (p := ⟨b, off + k * 2 + 1, none⟩) hb).trans HG1.out)
          | (go_simp; go_at_call 48; refine (HLT.out _ _ _ _ HO2.out hw2 hs2).mono ?_; rintro e w4 ⟨v4, rfl, hown4, hb4⟩; have hz4 := hz2.trans hb4; have hs4 : w.heap.size + 1 ≤ w4.heap.size := (by have := hb4.size; omega); obtain ⟨a4, k4, c4, rfl, HK4, HO4⟩ := bopen hown4; clear hown4))
        all_goals
          go_wp2_with fail
          go_roundw
          case rel => exact ⟨k + 1, k4, a4, c4, by omega, by go_num, rfl, by rw [HEQ.out]; exact ⟨HK4.out, HO4.out⟩, hz4, hs4⟩
          case measure => simp [intOf]; omega
    · have hkn : k = nb := by omega
      subst hkn
      rw [HALL.out] at HRO
      have HST2 : Hid (m = (headT vn n ++ bs.flatMap (blkT [32]) ++ (xss.take 0).flatMap clsT).length ∧ wr.ownsRow (w.heap.size + 1) 5 1 (.slice ab m cb) m ((headT vn n ++ bs.flatMap (blkT [32]) ++ (xss.take 0).flatMap clsT).map (Value.int .u8))) := by
        rw [List.take_zero, List.flatMap_nil, List.append_nil]
        exact HRO.out
      clear HRO
      go_wp2_with fail
      go_loopw [3, 6] (fun bv i wr2 => ∃ (k2 m2 : Nat) (ab2 : Option Addr) (cb2 : Nat), k2 ≤ n ∧ i = .int .i64 k2 ∧ bv = .slice ab2 m2 cb2 ∧ Hid (m2 = (headT vn n ++ bs.flatMap (blkT [32]) ++ (xss.take k2).flatMap clsT).length ∧ wr2.ownsRow (w.heap.size + 1) 5 1 (.slice ab2 m2 cb2) m2 ((headT vn n ++ bs.flatMap (blkT [32]) ++ (xss.take k2).flatMap clsT).map (Value.int .u8))) ∧ Below (w.heap.size + 1) w0 wr2 ∧ w.heap.size + 1 ≤ wr2.heap.size) (fun _ i _ => n - (intOf i).toNat)
      case atStart => exact ⟨0, _, _, _, Nat.zero_le _, rfl, rfl, HST2.out, hzr, hsr⟩
      case round =>
        obtain ⟨k2, m2, ab2, cb2, hk2, rfl, rfl, HRO, hzr2, hsr2⟩ := hrel
        clear HST2 hzr hsr hwr hx0 hx1 hx2
        obtain ⟨hx0, hx1, hx2⟩ := HBOX.out _ hzr2
        have hwr : Below w.heap.size w wr := HW0.out.trans (hzr2.mono (by omega))
        by_cases hlt2 : k2 < n
        · obtain ⟨b, off, ha, hb, hc⟩ := HR.out.resolve_left (by omega)
          subst ha
          obtain ⟨v, g1, hv⟩ := hc k2 hlt2
          clear hc
          have g1' := (hwr.cell (p := ⟨b, off + k2, none⟩) hb).trans g1
          have HSS := Lib.hid (HSTEP.out k2 hlt2)
          have HIK := Lib.hid (HI.out _ (HMEM.out k2 hlt2))
          have HKE := Lib.hid (HK1.out (k2 + 1))
          rw [HSS.out, ← List.append_assoc] at HKE
          clear g1
          obtain ⟨av, cv, rfl, hrv⟩ := hv
          generalize hH : headT vn n ++ bs.flatMap (blkT [32]) ++ (xss.take k2).flatMap clsT = hd at *
          generalize xss.getD k2 [] = ys at *
          have HLT := Lib.hid (refLits_any (w.heap.size + 1) m2 ab2 cb2 hd av cv ys wr (by exact HRO.out.2) hsr2 (fun W hW => hrv.keep (hwr.trans (hW.mono (by omega)))) HIK.out HKE.out (fun W hW => HTB.out _ _ (hwr.trans (hW.mono (by omega))) (by omega)))
          have HHD := Lib.hid hH; clear hH hrv
          generalize ys.length = ml at *
          go_wp2_with (go_at_call 48; refine HLT.out.mono ?_; rintro e w4 ⟨v4, rfl, hown4, hb4⟩; have hz4 := hzr2.trans hb4; have hs4 : w.heap.size + 1 ≤ w4.heap.size := (by have := hb4.size; omega); obtain ⟨a4, k4, c4, rfl, HK4, HO4⟩ := bopen hown4; clear hown4)
          go_roundw
          case rel =>
            have he : headT vn n ++ bs.flatMap (blkT [32]) ++ (xss.take (k2 + 1)).flatMap clsT = hd ++ clsT ys := by rw [HSS.out, ← List.append_assoc, HHD.out]
            exact ⟨k2 + 1, k4, a4, c4, by omega, by go_num, rfl, by rw [he]; exact ⟨HK4.out, HO4.out⟩, hz4, hs4⟩
          case measure => simp [intOf]; omega
        · have hkn2 : k2 = n := by omega
          subst hkn2
          have HFIN := Lib.hid (HTX.out (.slice ab2 m2 cb2) wr m2 HRO.out.1 HRO.out.2)
          clear HTX HRO
          go_wp2_with fail
          (try go_ret)
          exact ⟨⟨_, rfl, HFIN.out⟩, hwr⟩
end Go.Proofs.YtfoohdknjacenaaGreatDoor

namespace Go.Proofs.YtfoohdknjacenaaGreatDoor
open Go.RowKit

set_option maxHeartbeats 2000000 in
theorem sameBlock_yes (e : Bool) (v u : Value) (l : List Int) (w : World) (hv : Row w v l) (hu : Row w u l) :
    Calls Tryz.prog 62 #[.agg #[.bool e, v], .agg #[.bool e, u]] w fun r w' => r = .returned (.bool true) ∧ Below w.heap.size w w' := by
  have HB := Lib.hid (fun o1 o2 => show Below w.heap.size w ((w.alloc o1).alloc o2) from ((Below.refl _ w).alloc (Nat.le_refl _) _).alloc (by simp) _)
  have HS := Lib.hid (fun W (hW : Below w.heap.size w W) => sameInts_any v u l l W (hv.keep hW) (hu.keep hW))
  obtain ⟨av, cv, rfl, _⟩ := hv
  obtain ⟨au, cu, rfl, _⟩ := hu
  have hd : decide (l = l) = true := by simp
  rw [hd] at HS
  clear hd
  have hee : (e == e) = true := by simp
  generalize l.length = n at *
  go_enter Tryz.func62, Tryz.ntmps62
  go_wp2_with (go_at_call 73; refine (HS.out _ (HB.out _ _)).mono ?_; rintro e2 w2 ⟨rfl, hw2⟩)
  go_ret
  exact ⟨rfl, (HB.out _ _).trans ((below_draws hw2).mono (by simp; omega))⟩

set_option maxHeartbeats 2000000 in
theorem sameBlocks_yes (a a' : Option Addr) (c c' : Nat) (bs : List Blk) (w : World) (hv : BRowsAt w a c bs) (hu : BRowsAt w a' c' bs) :
    Calls Tryz.prog 33 #[.slice a bs.length c, .slice a' bs.length c'] w fun e w' => e = .returned (.bool true) ∧ Below w.heap.size w w' := by
  obtain ⟨h1, h2, h3⟩ := hv
  obtain ⟨h4, h5, h6⟩ := hu
  unfold maxLen at h2 h5
  have h1c : ((bs.length : Int) != bs.length) = false := by simp
  have HV := Lib.hid h3; clear h3
  have HU := Lib.hid h6; clear h6
  generalize hn : bs.length = n at *
  clear hn
  go_enter Tryz.func33, Tryz.ntmps33
  go_wp2_with fail
  go_loopw [5] (fun i wr => ∃ k : Nat, k ≤ n ∧ i = .int .i64 k ∧ Below w.heap.size w wr) (fun i _ => n - (intOf i).toNat)
  case atStart => exact ⟨0, Nat.zero_le _, rfl, Below.refl _ _⟩
  case round =>
    obtain ⟨k, hk, rfl, hbr⟩ := hrel
    by_cases hlt : k < n
    · obtain ⟨b, off, e1, hb, hc⟩ := HV.out.resolve_left (by omega)
      obtain ⟨b', off', e2, hb', hc'⟩ := HU.out.resolve_left (by omega)
      subst e1; subst e2
      obtain ⟨q1, v, g1, r1⟩ := hc k hlt
      obtain ⟨q2, u, g2, r2⟩ := hc' k hlt
      have q1' := (hbr.cell (p := ⟨b, off + k * 2, none⟩) hb).trans q1
      have q2' := (hbr.cell (p := ⟨b', off' + k * 2, none⟩) hb').trans q2
      have g1' := (hbr.cell (p := ⟨b, off + k * 2 + 1, none⟩) hb).trans g1
      have g2' := (hbr.cell (p := ⟨b', off' + k * 2 + 1, none⟩) hb').trans g2
      have HS := Lib.hid (fun W (hW : Below w.heap.size w W) => sameBlock_yes (bs.getD k blk0).1 v u _ W (r1.keep hW) (r2.keep hW))
      obtain ⟨av, cv, rfl, _⟩ := r1
      obtain ⟨au, cu, rfl, _⟩ := r2
      have hkc : (k : Int) < n := by omega
      clear q1 q2 g1 g2 hc hc'
      generalize (bs.getD k blk0).2 = ys at *
      generalize (bs.getD k blk0).1 = ex at *
      generalize ys.length = m at *
      go_wp2_with fail
      go_region_with (go_at_call 62; refine (HS.out _ (by first | exact hbr | exact hbr.drew | exact below_drewN hbr _)).mono ?_; rintro e w2 ⟨rfl, hw2⟩; have hb2 := (show Below w.heap.size w _ by first | exact hbr.drew | exact hbr).trans (hw2.mono (by have := hbr.size; simpa using this)))
      all_goals
        clear hw2
        go_wp2_with fail
      all_goals exact ⟨⟨k + 1, by omega, by go_num, hb2⟩, by simp [intOf]; omega⟩
    · have hkn : k = n := by omega
      subst hkn
      go_wp2_with fail
      go_ret
      exact ⟨rfl, hbr⟩

set_option maxHeartbeats 1000000 in
theorem sameFormula_yes (vars : Int) (q q' : Option Addr) (d d' : Nat) (bs : List Blk) (a a' : Option Addr) (c c' : Nat) (xss : List (List Int)) (w : World) (hb : BRowsAt w q d bs) (hb' : BRowsAt w q' d' bs) (hv : RowsAt w a c xss) (hu : RowsAt w a' c' xss) :
    Calls Tryz.prog 9 #[.agg #[.slice q bs.length d, .int .i64 vars, .slice a xss.length c], .agg #[.slice q' bs.length d', .int .i64 vars, .slice a' xss.length c']] w fun e w' => e = .returned (.bool true) ∧ Below w.heap.size w w' := by
  have HS := Lib.hid (fun W (hW : Below w.heap.size w W) => sameCNF_yes vars a a' c c' xss W (hv.keep hW) (hu.keep hW))
  have HT := Lib.hid (fun W (hW : Below w.heap.size w W) => sameBlocks_yes q q' d d' bs W (hb.keep hW) (hb'.keep hW))
  have HB := Lib.hid (fun o1 o2 => show Below w.heap.size w ((w.alloc o1).alloc o2) from ((Below.refl _ w).alloc (Nat.le_refl _) _).alloc (by simp) _)
  have HC1 : Hid (∀ (W : World) (x y z x' y' z' : Value) (T : TypeId), Below ((w.alloc (.cells #[x, y, z] T)).alloc (.cells #[x', y', z'] T)).heap.size ((w.alloc (.cells #[x, y, z] T)).alloc (.cells #[x', y', z'] T)) W → W.cell? ⟨w.heap.size, 1, none⟩ = some y ∧ W.cell? ⟨w.heap.size, 2, none⟩ = some z ∧ W.cell? ⟨w.heap.size + 1, 1, none⟩ = some y' ∧ W.cell? ⟨w.heap.size + 1, 2, none⟩ = some z') := fun W x y z x' y' z' T h => by
    have h1 := cells3 w W x y z T (((Below.refl _ _).alloc (Nat.le_refl _) _).trans (h.mono (by simp)))
    have h2 := cells3 (w.alloc (.cells #[x, y, z] T)) W x' y' z' T h
    rw [show (w.alloc (.cells #[x, y, z] T)).heap.size = w.heap.size + 1 by simp] at h2
    exact ⟨h1.2.1, h1.2.2, h2.2.1, h2.2.2⟩
  clear hv hu hb hb'
  generalize xss.length = n at *
  generalize bs.length = m at *
  go_enter Tryz.func9, Tryz.ntmps9
  go_wp2_with (first
    | (go_at_call 33; refine (HT.out _ (HB.out _ _)).mono ?_; rintro e w1 ⟨rfl, hb1⟩; have hbw1 := (HB.out _ _).trans (hb1.mono (by simp; omega)); obtain ⟨g1, g2, g3, g4⟩ := HC1.out _ _ _ _ _ _ _ _ hb1)
    | (go_at_call 20; refine (HS.out _ hbw1).mono ?_; rintro e w2 ⟨rfl, hb2⟩))
  go_ret
  exact ⟨rfl, hbw1.trans (hb2.mono hbw1.size)⟩
end Go.Proofs.YtfoohdknjacenaaGreatDoor

namespace Go.Proofs.YtfoohdknjacenaaGreatDoor
open Go.RowKit

/-- What Check leaves. -/
def CheckPost (w : World) (vars : Int) (xss : List (List Int)) (e : Ending) (w' : World) : Prop :=
  ∃ ev c p k, e = .returned ev ∧ CheckF vars xss c p k ∧ ErrAs w' ev c p k ∧ (c = 0 → ev = .nilIface) ∧ (c ≠ 0 → ∃ t v, ev = .iface t v) ∧ Below w.heap.size w w'

set_option maxHeartbeats 2000000 in
theorem check_any (A : Nat → Addr) (vars : Int) (a : Option Addr) (cap : Nat) (xss : List (List Int)) (w : World) (hS : Sents w A) (hv1 : -9223372036854775808 ≤ vars) (hv2 : vars ≤ 9223372036854775807) (hr : RowsAt w a cap xss)
    (hint : ∀ xs ∈ xss, ∀ l ∈ xs, -9223372036854775807 ≤ l ∧ l ≤ 9223372036854775807) (hlen : ∀ xs ∈ xss, xs.length < 1000000000) :
    Calls Tryz.prog 39 #[.agg #[.int .i64 vars, .slice a xss.length cap]] w (CheckPost w vars xss) := by
  obtain ⟨hc1, hc2, hr⟩ := hr
  unfold maxLen at hc2
  have HR := Lib.hid hr; clear hr
  have HI := Lib.hid hint; clear hint
  have HLEN := Lib.hid hlen; clear hlen
  have HS := Lib.hid hS
  have s1 : w.cell? ⟨0, 0, none⟩ = some (.iface 179 (.pointer (some (A 1)))) := hS.c1
  have s3 : w.cell? ⟨1, 0, none⟩ = some (.iface 179 (.pointer (some (A 3)))) := hS.c3
  have z1 : 0 < w.heap.size := World.block_lt_of_cell? w _ s1
  have z3 : 1 < w.heap.size := World.block_lt_of_cell? w _ s3
  clear hS
  have hbw : ∀ o, Below w.heap.size w (w.alloc o) := fun o => (Below.refl _ w).alloc (Nat.le_refl _) _
  have HB := Lib.hid hbw; clear hbw
  have HL : Hid (∀ W, Below w.heap.size w W → tooMuch vars xss → CheckPost w vars xss (.returned (sentV A 1)) W) := fun W hW ht =>
    ⟨sentV A 1, 102, false, 0, rfl, .inl ⟨ht, rfl, rfl, rfl⟩, errAs_sent (HS.out.keep hW) 1 (by omega), fun h => by omega, fun _ => ⟨_, _, rfl⟩, hW⟩
  generalize hN : xss.length = n at *
  have HN := Lib.hid hN; clear hN
  by_cases hvn : vars < 0
  · have HT := Lib.hid (show tooMuch vars xss from .inl hvn)
    go_enter Tryz.func39, Tryz.ntmps39
    go_wp2_with fail
    go_ret
    exact HL.out _ (HB.out _) HT.out
  have hd1 : decide (vars < 0) = false := by simpa using hvn
  by_cases hvp : 4000 < vars
  · have HT := Lib.hid (show tooMuch vars xss from .inr (.inl hvp))
    go_enter Tryz.func39, Tryz.ntmps39
    go_wp2_with fail
    go_ret
    exact HL.out _ (HB.out _) HT.out
  have hd2 : decide (4000 < vars) = false := by simpa using hvp
  by_cases hnp : 20000 < n
  · have HT := Lib.hid (show tooMuch vars xss from .inr (.inr (.inl (by rw [HN.out]; exact hnp))))
    go_enter Tryz.func39, Tryz.ntmps39
    go_wp2_with fail
    go_ret
    exact HL.out _ (HB.out _) HT.out
  have hd3 : decide (20000 < (n : Int)) = false := by simp; omega
  go_enter Tryz.func39, Tryz.ntmps39
  go_wp2_with fail
  go_loop [3, 28] (fun s i => ∃ k : Nat, k ≤ n ∧ i = .int .i64 k ∧ s = .int .i64 (sumTo xss k) ∧ sumTo xss k ≤ 80000) (fun _ i => n - (intOf i).toNat)
  case atStart => exact ⟨0, Nat.zero_le _, rfl, rfl, by simp [sumTo]⟩
  case round =>
    obtain ⟨k, hk, rfl, rfl, hsum⟩ := hrel
    by_cases hlt : k < n
    · obtain ⟨b, off, ha, hb, hc⟩ := HR.out.resolve_left (by omega)
      subst ha
      obtain ⟨v, g1, hv⟩ := hc k hlt
      clear hc
      have hkl : k < xss.length := by rw [HN.out]; exact hlt
      have HSU := Lib.hid (sumTo_succ xss k hkl)
      have hle : (xss.getD k []).length < 1000000000 := HLEN.out _ (by simp [List.getD, hkl])
      have HMO := Lib.hid (sumTo_mono xss (k + 1) xss.length (by omega))
      clear hkl
      obtain ⟨av, cv, rfl, hrv⟩ := hv
      clear hrv
      generalize (xss.getD k []).length = m at *
      by_cases hs : 80000 < sumTo xss k + m
      · have HT := Lib.hid (show tooMuch vars xss from .inr (.inr (.inr (by have := HMO.out; rw [HSU.out] at this; omega))))
        generalize sumTo xss k = sk at *
        go_wp2_with fail
        go_ret
        exact HL.out _ (HB.out _) HT.out
      · generalize hsk : sumTo xss k = sk at *
        go_wp2_with fail
        go_round
        case rel => exact ⟨k + 1, by omega, by go_num, by rw [HSU.out]; go_num, by rw [HSU.out]; omega⟩
        case measure => simp [intOf]; omega
    · have hkn : k = n := by omega
      have HNT := Lib.hid (show ¬ tooMuch vars xss from by
        rintro (h | h | h | h)
        · omega
        · omega
        · rw [HN.out] at h; exact hnp h
        · rw [HN.out, ← hkn] at h; omega)
      clear hlt hsum
      go_wp2_with fail
      clear hkn hk
      go_loop [43] (fun i => ∃ k : Nat, k ≤ n ∧ i = .int .i64 k ∧ Hid (∀ j, j < k → ∀ l ∈ xss.getD j [], isB vars l = true)) (fun i => n - (intOf i).toNat)
      case atStart => exact ⟨0, Nat.zero_le _, rfl, fun j hj => absurd hj (Nat.not_lt_zero _)⟩
      case round =>
        obtain ⟨k, hk, rfl, HQ⟩ := hrel
        by_cases hlt : k < n
        · obtain ⟨b, off, ha, hb, hc⟩ := HR.out.resolve_left (by omega)
          subst ha
          obtain ⟨v, g1, hv⟩ := hc k hlt
          clear hc
          have hkl : k < xss.length := by rw [HN.out]; exact hlt
          have hmem : xss.getD k [] ∈ xss := by simp [List.getD, hkl]
          have hle : (xss.getD k []).length < 1000000000 := HLEN.out _ hmem
          have HIK := Lib.hid (HI.out _ hmem)
          clear hmem
          generalize hys : xss.getD k [] = ys at *
          have HYS := Lib.hid hys; clear hys
          obtain ⟨av, cv, rfl, hrv1, hrv2, hrv⟩ := hv
          have HRV := Lib.hid hrv; clear hrv
          unfold maxLen at hrv2
          generalize hm : ys.length = m at *
          have HM := Lib.hid hm; clear hm
          have HKL := Lib.hid hkl; clear hkl
          go_wp2_with fail
          go_loop [50] (fun i => ∃ j : Nat, j ≤ m ∧ i = .int .i64 j ∧ Hid (∀ i, i < j → isB vars (ys.getD i 0) = true)) (fun i => m - (intOf i).toNat)
          case atStart => exact ⟨0, Nat.zero_le _, rfl, fun j hj => absurd hj (Nat.not_lt_zero _)⟩
          case round =>
            obtain ⟨j, hj, rfl, HP⟩ := hrel
            by_cases hjl : j < m
            · obtain ⟨b2, off2, ha2, hb2, hc2'⟩ := HRV.out.resolve_left (by omega)
              subst ha2
              have g2 : w.cell? ⟨b2, off2 + j, none⟩ = some (.int .i64 (ys.getD j 0)) := hc2' j hjl
              clear hc2'
              have hjy : j < ys.length := by rw [HM.out]; exact hjl
              have hmem2 : ys.getD j 0 ∈ ys := by simp [List.getD, hjy]
              obtain ⟨hl1, hl2⟩ := HIK.out _ hmem2
              have HME := Lib.hid hmem2; clear hmem2 hjy
              generalize hlj : ys.getD j 0 = l at *
              have HLJ := Lib.hid hlj; clear hlj
              have HIS := Lib.hid (fun W => is_any l vars W hl1 hl2)
              obtain ⟨r, hr⟩ : ∃ r, isB vars l = r := ⟨_, rfl⟩
              rw [show (decide (1 ≤ absI l) && decide (absI l ≤ vars)) = r from hr] at HIS
              have HRR := Lib.hid hr; clear hr
              cases r with
              | true =>
                go_wp2_with (go_at_call 65; refine (HIS.out _).mono ?_; rintro e w' ⟨rfl, rfl⟩)
                go_round
                case rel =>
                  refine ⟨j + 1, by omega, by go_num, fun i hi => ?_⟩
                  by_cases e : i = j
                  · rw [e, HLJ.out]; exact HRR.out
                  · exact HP.out i (by omega)
                case measure => simp [intOf]; omega
              | false =>
                have HFB := Lib.hid (show firstBad vars xss k from ⟨HKL.out, HQ.out, l, by rw [HYS.out]; exact HME.out, HRR.out⟩)
                go_wp2_with (go_at_call 65; refine (HIS.out _).mono ?_; rintro e w' ⟨rfl, rfl⟩)
                go_ret
                have hbb : ∀ o, Below w.heap.size w ((w.alloc (.cells #[.int .i64 vars, .slice (some ⟨b, off, none⟩) n cap] 27)).alloc o) := fun o => (HB.out _).alloc (by simp) _
                refine ⟨_, 104, true, k, rfl, .inr (.inl ⟨HNT.out, k, HFB.out, rfl, rfl, rfl⟩), ?_, fun h => by omega, fun _ => ⟨_, _, rfl⟩, hbb _⟩
                refine errAs_at (HS.out.keep (hbb _)) 3 (by omega) (w.heap.size + 1) k ?_ ?_
                · rw [World.cell?_alloc_at _ _ _ _ (by simp)]; rfl
                · rw [World.cell?_alloc_at _ _ _ _ (by simp)]; rfl
            · have hjm : j = m := by omega
              have HALL := Lib.hid (show ∀ j', j' < k + 1 → ∀ l ∈ xss.getD j' [], isB vars l = true from by
                intro j' hj' l hl
                by_cases e : j' = k
                · rw [e, HYS.out] at hl
                  obtain ⟨i, hi, rfl⟩ := List.getElem_of_mem hl
                  have := HP.out i (by rw [HM.out] at hi; omega)
                  simpa [List.getD, hi] using this
                · exact HQ.out j' (by omega) l hl)
              clear hjl
              go_wp2_with fail
              go_round
              case rel => exact ⟨k + 1, by omega, by go_num, HALL.out⟩
              case measure => simp [intOf]; omega
        · have hkn : k = n := by omega
          have HALL := Lib.hid (show allIs vars xss from by
            intro xs hxs l hl
            obtain ⟨i, hi, rfl⟩ := List.getElem_of_mem hxs
            exact HQ.out i (by rw [HN.out] at hi; omega) l (by simpa [List.getD, hi] using hl))
          clear hlt
          go_wp2_with fail
          go_ret
          exact ⟨_, 0, false, 0, rfl, .inr (.inr ⟨HNT.out, HALL.out, rfl, rfl, rfl⟩), errAs_nil _, fun _ => rfl, fun h => absurd rfl h, HB.out _⟩
end Go.Proofs.YtfoohdknjacenaaGreatDoor

namespace Go.Proofs.YtfoohdknjacenaaGreatDoor
open Go.RowKit

/-- The fault that Check tells of a formula. -/
def CheckFF (vars : Int) (bs : List Blk) (xss : List (List Int)) (c : Int) (p : Bool) (k : Int) : Prop :=
  (c ≠ 0 ∧ CheckF vars xss c p k) ∨ (CheckF vars xss 0 false 0 ∧ ((blksBad vars 0 [] bs = none ∧ c = 0 ∧ p = false ∧ k = 0) ∨ ∃ i : Nat, blksBad vars 0 [] bs = some i ∧ c = 104 ∧ p = true ∧ k = i))
theorem checkF_same {vars : Int} {xss : List (List Int)} {c c' : Int} {p p' : Bool} {k k' : Int} (h : CheckF vars xss c p k) (h' : CheckF vars xss c' p' k') : c' = c ∧ p' = p ∧ k' = k := by
  have hAB : ∀ {i}, firstBad vars xss i → ¬ allIs vars xss := fun {i} hb ha => by
    obtain ⟨h1, _, l, h2, h3⟩ := hb
    have := ha (xss.getD i []) (by simp [List.getD, h1]) l h2
    rw [h3] at this
    cases this
  rcases h with ⟨h1, rfl, rfl, rfl⟩ | ⟨h1, i, h2, rfl, rfl, rfl⟩ | ⟨h1, h2, rfl, rfl, rfl⟩ <;> rcases h' with ⟨g1, rfl, rfl, rfl⟩ | ⟨g1, j, g2, rfl, rfl, rfl⟩ | ⟨g1, g2, rfl, rfl, rfl⟩
  · exact ⟨rfl, rfl, rfl⟩
  · exact absurd h1 g1
  · exact absurd h1 g1
  · exact absurd g1 h1
  · have : j = i := by
      rcases Nat.lt_trichotomy j i with e | e | e
      · obtain ⟨_, _, l, h5, h6⟩ := g2
        have := h2.2.1 j e l h5
        rw [h6] at this; cases this
      · exact e
      · obtain ⟨_, _, l, h5, h6⟩ := h2
        have := g2.2.1 i e l h5
        rw [h6] at this; cases this
    subst this
    exact ⟨rfl, rfl, rfl⟩
  · exact absurd g2 (hAB h2)
  · exact absurd g1 h1
  · exact absurd h2 (hAB g2)
  · exact ⟨rfl, rfl, rfl⟩
theorem first_bad (vars : Int) (xss : List (List Int)) : ∀ k, k ≤ xss.length → (∀ j, j < k → ∀ l ∈ xss.getD j [], isB vars l = true) ∨ ∃ i, firstBad vars xss i
  | 0, _ => .inl fun j hj => absurd hj (Nat.not_lt_zero _)
  | k + 1, h => by
    rcases first_bad vars xss k (by omega) with h1 | h1
    · by_cases h2 : ∀ l ∈ xss.getD k [], isB vars l = true
      · left
        intro j hj
        by_cases e : j = k
        · subst e; exact h2
        · exact h1 j (by omega)
      · right
        simp only [Classical.not_forall, Bool.not_eq_true] at h2
        obtain ⟨l, h3, h4⟩ := h2
        exact ⟨k, by omega, h1, l, h3, h4⟩
    · exact .inr h1
theorem checkF_some (vars : Int) (xss : List (List Int)) : (∃ c p k, CheckF vars xss c p k ∧ c ≠ 0) ∨ CheckF vars xss 0 false 0 := by
  by_cases ht : tooMuch vars xss
  · exact .inl ⟨102, false, 0, .inl ⟨ht, rfl, rfl, rfl⟩, by omega⟩
  · rcases first_bad vars xss xss.length (Nat.le_refl _) with h | ⟨i, h⟩
    · refine .inr (.inr (.inr ⟨ht, fun xs hxs l hl => ?_, rfl, rfl, rfl⟩))
      obtain ⟨i, hi, rfl⟩ := List.getElem_of_mem hxs
      exact h i hi l (by simpa [List.getD, hi] using hl)
    · exact .inl ⟨104, true, i, .inr (.inl ⟨ht, i, h, rfl, rfl, rfl⟩), by omega⟩
theorem checkFF_same {vars : Int} {bs : List Blk} {xss : List (List Int)} {c c' : Int} {p p' : Bool} {k k' : Int} (h : CheckFF vars bs xss c p k) (h' : CheckFF vars bs xss c' p' k') : c' = c ∧ p' = p ∧ k' = k := by
  rcases h with ⟨h0, h1⟩ | ⟨h1, h2⟩ <;> rcases h' with ⟨g0, g1⟩ | ⟨g1, g2⟩
  · exact checkF_same h1 g1
  · exact absurd (checkF_same h1 g1).1.symm h0
  · exact absurd (checkF_same h1 g1).1 g0
  · rcases h2 with ⟨e1, rfl, rfl, rfl⟩ | ⟨i, e1, rfl, rfl, rfl⟩ <;> rcases g2 with ⟨e2, rfl, rfl, rfl⟩ | ⟨j, e2, rfl, rfl, rfl⟩
    · exact ⟨rfl, rfl, rfl⟩
    · rw [e1] at e2; cases e2
    · rw [e1] at e2; cases e2
    · rw [e1] at e2
      obtain rfl := Option.some.inj e2
      exact ⟨rfl, rfl, rfl⟩
/-- In a block: what is left of it, and the blocks behind. -/
def blksIn (vars : Int) (i : Nat) (met vs : List Int) (r : List Blk) : Option Nat := match varsOk vars met vs with
  | none => some i
  | some m => blksBad vars (i + 1) m r
theorem bb_end (vars : Int) (bs : List Blk) (i : Nat) (met : List Int) (h : bs.length ≤ i) : blksBad vars i met (bs.drop i) = none := by
  rw [List.drop_eq_nil_of_le h, blksBad]
theorem bb_in (vars : Int) (bs : List Blk) (i : Nat) (met : List Int) (h : i < bs.length) : blksBad vars i met (bs.drop i) = blksIn vars i met (bs.getD i blk0).2 (bs.drop (i + 1)) := by
  rw [List.drop_eq_getElem_cons h, blksBad, show bs.getD i blk0 = bs[i] by simp [List.getD, h]]
  rfl
theorem bn_end (vars : Int) (i j : Nat) (met vs : List Int) (r : List Blk) (h : vs.length ≤ j) : blksIn vars i met (vs.drop j) r = blksBad vars (i + 1) met r := by
  rw [List.drop_eq_nil_of_le h]; rfl
theorem bn_ok (vars : Int) (i j : Nat) (met vs : List Int) (r : List Blk) (h : j < vs.length) (hk : okV vars met (vs.getD j 0) = true) : blksIn vars i met (vs.drop j) r = blksIn vars i (met ++ [vs.getD j 0]) (vs.drop (j + 1)) r := by
  rw [List.drop_eq_getElem_cons h]
  have e : vs.getD j 0 = vs[j] := by simp [List.getD, h]
  rw [e] at hk ⊢
  unfold blksIn
  rw [varsOk, if_pos hk]
theorem bn_bad (vars : Int) (i j : Nat) (met vs : List Int) (r : List Blk) (h : j < vs.length) (hk : okV vars met (vs.getD j 0) = false) : blksIn vars i met (vs.drop j) r = some i := by
  rw [List.drop_eq_getElem_cons h]
  have e : vs.getD j 0 = vs[j] := by simp [List.getD, h]
  rw [e] at hk
  unfold blksIn
  rw [varsOk, if_neg (by rw [hk]; simp)]

def ChkPost (w : World) (vars : Int) (bs : List Blk) (xss : List (List Int)) (e : Ending) (w' : World) : Prop :=
  ∃ ev c p k, e = .returned ev ∧ CheckFF vars bs xss c p k ∧ ErrAs w' ev c p k ∧ (c = 0 → ev = .nilIface) ∧ Below w.heap.size w w'

set_option maxHeartbeats 4000000 in
theorem checkFm_any (A : Nat → Addr) (vars : Int) (q : Option Addr) (d : Nat) (bs : List Blk) (a : Option Addr) (cap : Nat) (xss : List (List Int)) (w : World) (hS : Sents8 w A) (hv1 : -9223372036854775808 ≤ vars) (hv2 : vars ≤ 9223372036854775807) (hq : BRowsAt w q d bs) (hr : RowsAt w a cap xss)
    (hint : ∀ xs ∈ xss, ∀ l ∈ xs, -9223372036854775807 ≤ l ∧ l ≤ 9223372036854775807) (hlen : ∀ xs ∈ xss, xs.length < 1000000000) :
    Calls Tryz.prog 12 #[.agg #[.slice q bs.length d, .int .i64 vars, .slice a xss.length cap]] w (ChkPost w vars bs xss) := by
  have HCK := Lib.hid (fun W (hW : Below w.heap.size w W) => check_any A vars a cap xss W (hS.keep hW).toSents hv1 hv2 (hr.keep hW) hint hlen)
  have HT := Lib.hid (fun (k : Int) W => qat_any A k 3 W)
  have c3 := hS.c3
  have z3 : 1 < w.heap.size := World.block_lt_of_cell? w _ c3
  have HC3 : Hid (∀ W, Below w.heap.size w W → W.cell? ⟨1, 0, none⟩ = some (.iface 179 (.pointer (some (A 3))))) := fun W hW => (hW.cell (p := ⟨1, 0, none⟩) z3).trans c3
  have HSS := Lib.hid (fun W (hW : Below w.heap.size w W) => (hS.keep hW).toSents)
  have HBX : Hid (∀ o, Below w.heap.size w (w.alloc o)) := fun o => (Below.refl _ w).alloc (Nat.le_refl _) _
  obtain ⟨hq1, hq2, hq3⟩ := hq
  unfold maxLen at hq2
  have HQ3 := Lib.hid hq3; clear hq3
  have hvb : CheckF vars xss 0 false 0 → 0 ≤ vars ∧ vars ≤ 4000 := fun h => by
    rcases h with ⟨_, h, _⟩ | ⟨_, _, _, h, _⟩ | ⟨h, _⟩
    · omega
    · omega
    · unfold tooMuch at h; omega
  have HVB := Lib.hid hvb; clear hvb
  clear hS c3 hr hint hlen
  unfold CheckPost at HCK
  have HNIL : Hid (∀ W, Below w.heap.size w W → CheckF vars xss 0 false 0 → blksBad vars 0 [] bs = none → ChkPost w vars bs xss (.returned .nilIface) W) := fun W hW h0 h1 => ⟨_, 0, false, 0, rfl, .inr ⟨h0, .inl ⟨h1, rfl, rfl, rfl⟩⟩, errAs_nil _, fun _ => rfl, hW⟩
  have HBAD : Hid (∀ W ev (i : Nat) B, Below w.heap.size w W → CheckF vars xss 0 false 0 → blksBad vars 0 [] bs = some i → AtB A B W ev i 3 → ChkPost w vars bs xss (.returned ev) W) := fun W ev i B hW h0 h1 hat => by
    obtain ⟨b, _, rfl, g0, g1⟩ := hat
    exact ⟨_, 104, true, i, rfl, .inr ⟨h0, .inr ⟨i, h1, rfl, rfl, rfl⟩⟩, errAs_at (HSS.out _ hW) 3 (by omega) b _ g0 g1, fun h => by omega, hW⟩
  have HERR : Hid (∀ W ev c p k, Below w.heap.size w W → CheckF vars xss c p k → c ≠ 0 → ErrAs W ev c p k → ChkPost w vars bs xss (.returned ev) W) := fun W ev c p k hW h0 h1 h2 => ⟨_, c, p, k, rfl, .inl ⟨h1, h0⟩, h2, fun h => absurd h h1, hW⟩
  have HBB := Lib.hid (fun i met (h : i < bs.length) => bb_in vars bs i met h)
  have HBE := Lib.hid (fun met => bb_end vars bs bs.length met (Nat.le_refl _))
  have HTOT : Hid ((∀ c p k, CheckF vars xss c p k → c = 0) → CheckF vars xss 0 false 0) := fun h => by
    rcases checkF_some vars xss with ⟨c, p, k, h1, h2⟩ | h1
    · exact absurd (h c p k h1) h2
    · exact h1
  generalize hP : ChkPost w vars bs xss = P at *
  clear hP
  generalize hN : bs.length = n at *
  have HN := Lib.hid hN; clear hN
  generalize xss.length = m at *
  generalize A 3 = a3 at *
  by_cases hne : ∃ c p k, CheckF vars xss c p k ∧ c ≠ 0
  · have HNE := Lib.hid hne; clear hne
    go_enter Tryz.func12, Tryz.ntmps12
    go_wp2_with (go_at_call 39; refine (HCK.out _ (HBX.out _)).mono ?_; rintro e w1 ⟨ev, c, p, k, rfl, hcf, he, hz, hi, hb1⟩; have hc0 : c ≠ 0 := (by obtain ⟨c', p', k', h1, h2⟩ := HNE.out; rw [(checkF_same h1 hcf).1]; exact h2); obtain ⟨t, u, rfl⟩ := hi hc0; have hbw1 := (HBX.out _).trans (hb1.mono (by simp)))
    (try go_ret)
    exact HERR.out _ _ _ _ _ hbw1 hcf hc0 he
  · have HZ : Hid (∀ c p k, CheckF vars xss c p k → c = 0) := fun c p k h => by
      by_cases h0 : c = 0
      · exact h0
      · exact absurd ⟨c, p, k, h, h0⟩ hne
    clear hne
    obtain hcf0 := HTOT.out HZ.out
    · obtain ⟨hv3, hv4⟩ := HVB.out hcf0
      obtain ⟨vn, rfl⟩ : ∃ vn : Nat, vars = vn := ⟨vars.toNat, by omega⟩
      have HCF := Lib.hid hcf0; clear hcf0
      go_enter Tryz.func12, Tryz.ntmps12
      go_wp2_with (first
        | (go_at_call 39; refine (HCK.out _ (HBX.out _)).mono ?_; rintro e w1 ⟨ev, c, p, k, rfl, hcf, he, hz, hi, hb1⟩; obtain rfl : ev = .nilIface := hz (HZ.out _ _ _ hcf); have hbw1 := (HBX.out _).trans (hb1.mono (by simp)); obtain ⟨g0, g1, g2⟩ := cells3 w w1 _ _ _ _ hb1)
        | (at_make; refine wpList_makeG Value.bool false _ _ 1 Tryz.underlying84 infoBl rfl (by decide) rfl _ _ rfl _ (vn + 1) rfl rfl (by omega) ?_; intro w2 hc2 hb2 hlt2; have g0' := (hb2.cell (p := ⟨w.heap.size, 0, none⟩) (World.block_lt_of_cell? w1 _ g0)).trans g0))
      have hbw2 := hbw1.trans (hb2.mono hbw1.size)
      have hqw : w.heap.size ≤ w1.heap.size := hbw1.size
      generalize w1.heap.size = q0 at *
      clear g0 g1 g2 g0' he hz hi hcf hb1 hbw1 hb2
      go_loopw [5, 6, 8, 23] (fun _ _ _ i wr => ∃ (k : Nat) (met : List Int) (bits : List Bool), k ≤ n ∧ i = .int .i64 k ∧ CelG Value.bool false wr q0 bits ∧ MkL (vn + 1) met bits ∧ Below w.heap.size w wr ∧ Hid (blksBad (vn : Int) k met (bs.drop k) = blksBad (vn : Int) 0 [] bs)) (fun _ _ _ i _ => n - (intOf i).toNat)
      case atStart => exact ⟨0, [], _, Nat.zero_le _, rfl, hc2, MkL.start _, hbw2, rfl⟩
      case round =>
        obtain ⟨k, met, bits, hk, rfl, hcl, hml, hbr, HQ⟩ := hrel
        clear hc2 hlt2 hbw2
        have hqs := hcl.sq
        by_cases hlt : k < n
        · obtain ⟨b, off, ha, hbl, hc⟩ := HQ3.out.resolve_left (by omega)
          subst ha
          obtain ⟨f0, v, f1, hvr⟩ := hc k hlt
          clear hc
          have f0' := (hbr.cell (p := ⟨b, off + k * 2, none⟩) hbl).trans f0
          have f1' := (hbr.cell (p := ⟨b, off + k * 2 + 1, none⟩) hbl).trans f1
          have HQ2 := Lib.hid ((HBB.out k met hlt).symm.trans HQ.out)
          clear f0 f1 HQ
          obtain ⟨av, cv, rfl, hv5, hv6, hrv⟩ := hvr
          unfold maxLen at hv6
          generalize (bs.getD k blk0).1 = ex at *
          generalize (bs.getD k blk0).2 = ys at *
          have HRV := Lib.hid hrv; clear hrv
          generalize hml2 : ys.length = ml at *
          have HML := Lib.hid hml2; clear hml2
          have hbx : Below wr.heap.size wr (wr.alloc (.cells #[.bool ex, .slice av ml cv] 51)) := (Below.refl _ _).alloc (Nat.le_refl _) _
          have HX := Lib.hid (And.intro (hcl.keep hbx) (hbr.trans (hbx.mono hbr.size))); clear hbx hcl hbr
          go_wp2_with fail
          obtain ⟨hcx, hbx⟩ := HX.out
          go_loopw [8, 31] (fun _ i wr2 => ∃ (j : Nat) (met2 : List Int) (bits2 : List Bool), j ≤ ml ∧ i = .int .i64 j ∧ CelG Value.bool false wr2 q0 bits2 ∧ MkL (vn + 1) met2 bits2 ∧ Below w.heap.size w wr2 ∧ Hid (blksIn (vn : Int) k met2 (ys.drop j) (bs.drop (k + 1)) = blksBad (vn : Int) 0 [] bs)) (fun _ i _ => ml - (intOf i).toNat)
          case atStart => exact ⟨0, met, bits, Nat.zero_le _, rfl, hcx, hml, hbx, HQ2.out⟩
          case round =>
            obtain ⟨j, met2, bits2, hj, rfl, hcl2, hml2, hbr2, HQ4⟩ := hrel
            clear hcx hbx
            by_cases hjl : j < ml
            · obtain ⟨b2, off2, ha2, hb2', hc2'⟩ := HRV.out.resolve_left (by have := HML.out; omega)
              subst ha2
              have hjy : j < ys.length := by rw [HML.out]; exact hjl
              have f2 := (hbr2.cell (p := ⟨b2, off2 + j, none⟩) hb2').trans (hc2' j (by first | exact hjl | exact hjy))
              have HOKN := Lib.hid (fun h => bn_ok (vn : Int) k j met2 ys (bs.drop (k + 1)) hjy h)
              have HBDN := Lib.hid (fun h => bn_bad (vn : Int) k j met2 ys (bs.drop (k + 1)) hjy h)
              have HADD := Lib.hid (fun W (h : CelG Value.bool false W q0 bits2) => add_any q0 (vn + 1) met2 bits2 (ys.getD j 0) W h hml2)
              unfold AddPost at HADD
              rw [show (((vn + 1 : Nat) : Int) - 1) = (vn : Int) by omega] at HADD
              clear hc2' hjy
              generalize ys.getD j 0 = l at *
              cases hok : okV (vn : Int) met2 l with
              | true =>
                have HQ5 := Lib.hid ((HOKN.out hok).symm.trans HQ4.out)
                rw [hok] at HADD
                clear HOKN HBDN HQ4 hok
                go_wp2_with (go_at_call 40; refine (HADD.out _ hcl2).mono ?_; rintro e3 w3 ⟨rfl, ⟨bits3, hc3, hm3⟩, ho3⟩)
                go_roundw
                case rel => exact ⟨j + 1, met2 ++ [l], bits3, by omega, by go_num, hc3, hm3, ho3.below hbr2 hbr2.size hqw, HQ5.out⟩
                case measure => simp [intOf]; omega
              | false =>
                have HE := Lib.hid (HQ4.out.symm.trans (HBDN.out hok))
                rw [hok] at HADD
                clear HOKN HBDN HQ4 hok
                go_wp2_with (first
                  | (go_at_call 40; refine (HADD.out _ hcl2).mono ?_; rintro e3 w3 ⟨rfl, ⟨bits3, hc3, hm3⟩, ho3⟩; have hbw3 := ho3.below hbr2 hbr2.size hqw; have gg := HC3.out _ hbw3)
                  | (go_at_call 22; refine (HT.out _ _).mono ?_; rintro e4 w4 ⟨⟨ev4, rfl, hat⟩, hb4⟩))
                (try go_ret)
                exact HBAD.out _ _ k _ (hbw3.trans (hb4.mono hbw3.size)) HCF.out HE.out hat
            · have hjm : j = ml := by omega
              have HQ5 := Lib.hid ((bn_end (vn : Int) k j met2 ys (bs.drop (k + 1)) (by rw [HML.out]; omega)).symm.trans HQ4.out)
              subst hjm
              clear HQ4
              go_wp2_with fail
              go_roundw
              case rel => exact ⟨k + 1, met2, bits2, by omega, by go_num, hcl2, hml2, hbr2, HQ5.out⟩
              case measure => simp [intOf]; omega
        · have hkn : k = n := by omega
          subst hkn
          have HE := Lib.hid (HQ.out.symm.trans (HBE.out met))
          clear HQ
          go_wp2_with fail
          (try go_ret)
          exact HNIL.out _ hbr HCF.out HE.out
end Go.Proofs.YtfoohdknjacenaaGreatDoor

namespace Go.Proofs.YtfoohdknjacenaaGreatDoor
open Go.RowKit

/-- A fault as the document tells it. -/
def fltV (ws : List Wd) (e : Int) (f : Flt) : Value := faultV f.code f.placed (f.pos ws e)

set_option maxHeartbeats 1000000 in
theorem refAt_any (v : Value) (ws : List Wd) (k : Nat) (e : Int) (w : World) (hv : WRowO w v ws) :
    Calls Tryz.prog 60 #[v, .int .i64 k, .int .i64 e] w fun r w' => r = .returned (.int .i64 (posL ws k e)) ∧ w = w' := by
  obtain ⟨a, cap, rfl, hcl, hcm, hwo⟩ := hv
  unfold maxLen at hcm
  by_cases hk : k < ws.length
  · have hp : posL ws k e = (ws.getD k wd0).2.1 := by unfold posL; rw [if_pos hk]
    obtain ⟨g, off, rfl, hw⟩ := hwo.resolve_left (by omega)
    have hpos := hw.pos k hk
    rw [hp]
    clear hp hw hwo
    generalize (ws.getD k wd0).2.1 = pos at *
    generalize ws.length = n at *
    have hkc : (k : Int) < n := by omega
    go_enter Tryz.func60, Tryz.ntmps60
    go_wp2_with fail
    go_ret
    exact ⟨rfl, rfl⟩
  · have hp : posL ws k e = e := by unfold posL; rw [if_neg hk]
    rw [hp]
    clear hp hwo
    generalize ws.length = n at *
    have hkc : decide ((k : Int) < n) = false := by simp; omega
    go_enter Tryz.func60, Tryz.ntmps60
    go_wp2_with fail
    go_ret
    exact ⟨rfl, rfl⟩

set_option maxHeartbeats 1000000 in
theorem refText_any (v : Value) (ws : List Wd) (k : Nat) (e : Int) (w : World) (hv : WRowO w v ws) :
    Calls Tryz.prog 29 #[v, .int .i64 k, .int .i64 e] w fun r w' => r = .returned (fltV ws e (.text k)) ∧ Below w.heap.size w w' := by
  have HA := Lib.hid (fun W (hW : Below w.heap.size w W) => refAt_any v ws k e W (hv.keep hW))
  have HP := Lib.hid (fun p W => placed_any 101 p W (by omega))
  have HB := Lib.hid (fun o => show Below w.heap.size w (w.alloc o) from (Below.refl _ w).alloc (Nat.le_refl _) _)
  show Calls _ _ _ _ fun r w' => r = .returned (faultV 101 true (posL ws k e)) ∧ _
  generalize posL ws k e = p at *
  obtain ⟨a, cap, rfl, _, _, _⟩ := hv
  unfold faultV at *
  go_enter Tryz.func29, Tryz.ntmps29
  go_wp2_with (first
    | (go_at_call 60; refine (HA.out _ (HB.out _)).mono ?_; rintro e w' ⟨rfl, rfl⟩)
    | (go_at_call 21; refine (HP.out _ _).mono ?_; rintro e w2 ⟨rfl, hb⟩; obtain ⟨hc, hf⟩ := bcell hb))
  have hbw := (HB.out _).trans (hb.mono (by simp))
  exact bodyPost_ret (v := .agg #[.int .i64 101, .bool true, .int .i64 p]) (by simp [results, Tryz.results29, go_sem, hc]) rfl ⟨rfl, ((hbw.setCell (Nat.le_refl _) _).setCell (Nat.le_refl _) _).setCell (Nat.le_refl _) _⟩

theorem head_at {xs : List Int} (h : xs ≠ []) : decide (xs.head? = some 45) = (xs.getD 0 0 == 45) := by
  cases xs with
  | nil => exact absurd rfl h
  | cons x t => rw [Bool.eq_iff_iff]; simp

set_option maxHeartbeats 2000000 in
theorem refPlain_any (v : Value) (ws : List Wd) (k : Nat) (w : World) (hv : WRowO w v ws) (hok : WOk ws) :
    Calls Tryz.prog 59 #[v, .int .i64 k] w fun r w' => r = .returned (.tuple #[.int .i64 ((cntL ws k).getD 0), .bool (cntL ws k).isSome]) ∧ Below w.heap.size w w' := by
  obtain ⟨a, cap, rfl, hcl, hcm, hwo⟩ := hv
  unfold maxLen at hcm
  by_cases hk : k < ws.length
  · obtain ⟨g, off, rfl, hw⟩ := hwo.resolve_left (by omega)
    have hf : w.cell? ⟨g, off + k * 3 + 2, none⟩ = some (.bool (fst ws k)) := hw.fst k hk
    have ht : w.cell? ⟨g, off + k * 3, none⟩ = some (.string (strOfNums (txt ws k))) := hw.text k hk
    obtain ⟨x1, x2, x3⟩ := hok.at hk
    have HN := Lib.hid (fun W => refNum_any (txt ws k) W x2 x3)
    unfold NumPost at HN
    have hyy := fun h => str_at x2 0 h
    have hss : (strOfNums (txt ws k)).size = (txt ws k).length := strOfNums_size _
    have hpos : 0 < (txt ws k).length := List.length_pos_iff.2 x1
    have hc : cntL ws k = if fst ws k = false ∧ (txt ws k).head? ≠ some 45 then numL (txt ws k) else none := by
      unfold cntL
      by_cases h : fst ws k = false ∧ (txt ws k).head? ≠ some 45
      · rw [if_pos ⟨hk, h⟩, if_pos h]
      · rw [if_neg (fun h' => h h'.2), if_neg h]
    rw [hc]
    have hha := head_at x1
    clear hw hwo hok x1 x2 x3 hc
    generalize fst ws k = f at *
    generalize txt ws k = xs at *
    generalize ws.length = n at *
    generalize strOfNums xs = s at *
    have hkc : decide ((n : Int) ≤ (k : Int)) = false := by simp; omega
    have hkd : (k : Int) < n := by omega
    cases f with
    | true =>
      rw [if_neg (by simp)]
      clear HN hyy
      go_enter Tryz.func59, Tryz.ntmps59
      go_wp2_with fail
      (try go_ret2)
      exact ⟨rfl, Below.refl _ _⟩
    | false =>
      generalize hy : xs.getD 0 0 = y at *
      generalize xs.length = m at *
      have hs0 : 0 < s.size := by omega
      cases hsg : (y == 45) with
      | true =>
        rw [hsg] at hha
        rw [if_neg (by have : xs.head? = some 45 := by simpa using hha
                       simp [this])]
        have hyd : y = 45 := by simpa using hsg
        subst hyd
        clear HN hha hy hsg
        go_enter Tryz.func59, Tryz.ntmps59
        go_wp2_with fail
        (try go_ret2)
        exact ⟨rfl, Below.refl _ _⟩
      | false =>
        rw [hsg] at hha
        rw [if_pos ⟨rfl, by simpa using hha⟩]
        clear hha hy
        generalize (numL xs).getD 0 = nn at *
        generalize (numL xs).isSome = ns at *
        go_enter Tryz.func59, Tryz.ntmps59
        go_wp2_with (go_at_call 30; refine (HN.out _).mono ?_; rintro e w2 ⟨rfl, hb2⟩)
        (try go_ret2)
        exact ⟨rfl, hb2⟩
  · have hc : cntL ws k = none := by unfold cntL; rw [if_neg (fun h => hk h.1)]
    rw [hc]
    clear hc hok hwo
    generalize ws.length = n at *
    have hkc : decide ((n : Int) ≤ (k : Int)) = true := by simp; omega
    go_enter Tryz.func59, Tryz.ntmps59
    go_wp2_with fail
    (try go_ret2)
    exact ⟨rfl, Below.refl _ _⟩
end Go.Proofs.YtfoohdknjacenaaGreatDoor

namespace Go.Proofs.YtfoohdknjacenaaGreatDoor
open Go.RowKit

def RHPost (w : World) (ws : List Wd) (e : Int) (R : Int × Int × Flt) (r : Ending) (w' : World) : Prop := r = .returned (.tuple #[.int .i64 R.1, .int .i64 R.2.1, fltV ws e R.2.2]) ∧ Below w.heap.size w w'
theorem headL_n0 {ws : List Wd} (h : ¬ (0 < ws.length ∧ fst ws 0 = true ∧ txt ws 0 = [112])) : headL ws = (0, 0, .text 0) := by unfold headL; rw [if_pos h]
theorem headL_n1 {ws : List Wd} (h0 : 0 < ws.length ∧ fst ws 0 = true ∧ txt ws 0 = [112]) (h : ¬ (1 < ws.length ∧ fst ws 1 = false ∧ txt ws 1 = [99, 110, 102])) : headL ws = (0, 0, .text 1) := by unfold headL; rw [if_neg (fun h => h h0), if_pos h]
theorem headL_n2 {ws : List Wd} (h0 : 0 < ws.length ∧ fst ws 0 = true ∧ txt ws 0 = [112]) (h1 : 1 < ws.length ∧ fst ws 1 = false ∧ txt ws 1 = [99, 110, 102]) : headL ws = match cntL ws 2 with
    | none => (0, 0, .text 2)
    | some v => if 4000 < v then (0, 0, .lim 2) else
      match cntL ws 3 with
      | none => (0, 0, .text 3)
      | some m => if 20000 < m then (0, 0, .lim 3) else (v, m, .ok) := by unfold headL; rw [if_neg (fun h => h h0), if_neg (fun h => h h1)]; rfl
theorem cnt_in {ws : List Wd} {k : Nat} {n : Int} (h : cntL ws k = some n) : k < ws.length := by
  unfold cntL at h
  split at h
  · rename_i h'; exact h'.1
  · cases h

theorem cnt_bd {ws : List Wd} {k : Nat} {n : Int} (h : cntL ws k = some n) : -1000000000 < n ∧ n < 1000000000 := by
  unfold cntL at h
  split at h
  · exact numL_bd h
  · cases h

set_option maxRecDepth 8000 in
set_option maxHeartbeats 1000000 in
theorem refHead_any (v : Value) (ws : List Wd) (e : Int) (w : World) (hv : WRow w v ws) (hok : WOk ws) (hn : ws.length ≤ 4000) :
    Calls Tryz.prog 28 #[v, .int .i64 e] w (RHPost w ws e (headL ws)) := by
  have HBW : Hid (∀ o, Below w.heap.size w (w.alloc o)) := fun o => (Below.refl _ w).alloc (Nat.le_refl _) _
  have HX0 : Hid (∀ W, Below w.heap.size w W → Calls Tryz.prog 29 #[v, .int .i64 0, .int .i64 e] W fun r w' => r = .returned (fltV ws e (.text 0)) ∧ Below W.heap.size W w') := fun W hW => refText_any v ws 0 e W (hv.o.keep hW)
  have HX1 : Hid (∀ W, Below w.heap.size w W → Calls Tryz.prog 29 #[v, .int .i64 1, .int .i64 e] W fun r w' => r = .returned (fltV ws e (.text 1)) ∧ Below W.heap.size W w') := fun W hW => refText_any v ws 1 e W (hv.o.keep hW)
  have HX2 : Hid (∀ W, Below w.heap.size w W → Calls Tryz.prog 29 #[v, .int .i64 2, .int .i64 e] W fun r w' => r = .returned (fltV ws e (.text 2)) ∧ Below W.heap.size W w') := fun W hW => refText_any v ws 2 e W (hv.o.keep hW)
  have HX3 : Hid (∀ W, Below w.heap.size w W → Calls Tryz.prog 29 #[v, .int .i64 3, .int .i64 e] W fun r w' => r = .returned (fltV ws e (.text 3)) ∧ Below W.heap.size W w') := fun W hW => refText_any v ws 3 e W (hv.o.keep hW)
  have HP2 : Hid (∀ W, Below w.heap.size w W → Calls Tryz.prog 59 #[v, .int .i64 2] W fun r w' => r = .returned (.tuple #[.int .i64 ((cntL ws 2).getD 0), .bool (cntL ws 2).isSome]) ∧ Below W.heap.size W w') := fun W hW => refPlain_any v ws 2 W (hv.o.keep hW) hok
  have HP3 : Hid (∀ W, Below w.heap.size w W → Calls Tryz.prog 59 #[v, .int .i64 3] W fun r w' => r = .returned (.tuple #[.int .i64 ((cntL ws 3).getD 0), .bool (cntL ws 3).isSome]) ∧ Below W.heap.size W w') := fun W hW => refPlain_any v ws 3 W (hv.o.keep hW) hok
  unfold fltV at *
  unfold faultV at *
  have HPL := Lib.hid (fun (p : Int) W => placed_any 102 p W (by omega))
  have HNO := Lib.hid (fun W => none_any W)
  unfold faultV at HPL HNO
  by_cases hl0 : ws.length = 0
  case pos =>
    rw [headL_n0 (fun h => by omega)]
    clear HX1 HX2 HX3 HP2 HP3 HPL HNO
    obtain ⟨a, cap, rfl, hcl, hcm, hwo⟩ := hv
    clear hwo hok
    show Calls _ _ _ _ (fun r w' => r = .returned (.tuple #[.int .i64 0, .int .i64 0, .agg #[.int .i64 101, .bool true, .int .i64 (posL ws 0 e)]]) ∧ Below w.heap.size w w')
    simp only [Flt.code, Flt.placed, Flt.pos] at HX0
    generalize posL ws 0 e = ps at *
    generalize ws.length = n at *
    subst hl0
    go_enter Tryz.func28, Tryz.ntmps28
    go_wp2_with (go_at_call 29; refine (HX0.out _ (HBW.out _)).mono ?_; rintro e2 w9 ⟨rfl, hb9⟩; obtain ⟨hc, hf⟩ := bcell hb9)
    have hbf := (HBW.out _).trans (hb9.mono (by simp))
    exact bodyPost_ret (v := .tuple #[.int .i64 0, .int .i64 0, .agg #[.int .i64 101, .bool true, .int .i64 ps]]) (by simp [results, Tryz.results28, go_sem, hc]) rfl ⟨rfl, ((hbf.setCell (Nat.le_refl _) _).setCell (Nat.le_refl _) _).setCell (Nat.le_refl _) _⟩
  case neg =>
  have hnb : ((ws.length : Int) == 0) = false := beq_eq_false_iff_ne.2 (by omega)
  obtain ⟨g, cap, rfl, hcl, hcm, hw⟩ := wrow_some hv hl0
  have hg := hw.sq
  have HG : Hid (∀ o v, w.cell? ⟨g, o, none⟩ = some v → ∀ W, Below w.heap.size w W → W.cell? ⟨g, o, none⟩ = some v) := fun o v h W hW => (hW.cell (p := ⟨g, o, none⟩) hg).trans h
  have t0 : w.cell? ⟨g, 0, none⟩ = some (.string (strOfNums (txt ws 0))) := by have := hw.text 0 (by omega); rwa [Nat.zero_mul] at this
  have f0 : w.cell? ⟨g, 2, none⟩ = some (.bool (fst ws 0)) := by have := hw.fst 0 (by omega); rwa [Nat.zero_mul] at this
  have hkp : (0 : Int) < ws.length := by omega
  by_cases ht0 : txt ws 0 = [112]
  case neg =>
    rw [headL_n0 (fun h => ht0 h.2.2)]
    have hne := str_ne (ys := [112]) (hok.at (show 0 < ws.length by omega)).2.1 (by intro x hx; simp at hx; omega) ht0
    rw [show (strOfNums [112]).toList = [112] from by rw [str_toList]; rfl] at hne
    clear HX1 HX2 HX3 HP2 HP3 HPL HNO hok hv hw f0 ht0
    generalize strOfNums (txt ws 0) = s at *
    show Calls _ _ _ _ (fun r w' => r = .returned (.tuple #[.int .i64 0, .int .i64 0, .agg #[.int .i64 101, .bool true, .int .i64 (posL ws 0 e)]]) ∧ Below w.heap.size w w')
    simp only [Flt.code, Flt.placed, Flt.pos] at HX0
    generalize posL ws 0 e = ps at *
    generalize ws.length = n at *
    go_enter Tryz.func28, Tryz.ntmps28
    go_wp2_with (go_at_call 29; refine (HX0.out _ (HBW.out _)).mono ?_; rintro e2 w9 ⟨rfl, hb9⟩; obtain ⟨hc, hf⟩ := bcell hb9)
    have hbf := (HBW.out _).trans (hb9.mono (by simp))
    exact bodyPost_ret (v := .tuple #[.int .i64 0, .int .i64 0, .agg #[.int .i64 101, .bool true, .int .i64 ps]]) (by simp [results, Tryz.results28, go_sem, hc]) rfl ⟨rfl, ((hbf.setCell (Nat.le_refl _) _).setCell (Nat.le_refl _) _).setCell (Nat.le_refl _) _⟩
  case pos =>
  rw [ht0, show strOfNums [112] = ⟨#[112]⟩ from rfl] at t0
  cases hf0 : fst ws 0
  case false =>
    rw [headL_n0 (fun h => by rw [hf0] at h; cases h.2.1)]
    rw [hf0] at f0
    clear HX1 HX2 HX3 HP2 HP3 HPL HNO hok hv hw ht0 hf0
    show Calls _ _ _ _ (fun r w' => r = .returned (.tuple #[.int .i64 0, .int .i64 0, .agg #[.int .i64 101, .bool true, .int .i64 (posL ws 0 e)]]) ∧ Below w.heap.size w w')
    simp only [Flt.code, Flt.placed, Flt.pos] at HX0
    generalize posL ws 0 e = ps at *
    generalize ws.length = n at *
    go_enter Tryz.func28, Tryz.ntmps28
    go_wp2_with (go_at_call 29; refine (HX0.out _ (HBW.out _)).mono ?_; rintro e2 w9 ⟨rfl, hb9⟩; obtain ⟨hc, hf⟩ := bcell hb9)
    have hbf := (HBW.out _).trans (hb9.mono (by simp))
    exact bodyPost_ret (v := .tuple #[.int .i64 0, .int .i64 0, .agg #[.int .i64 101, .bool true, .int .i64 ps]]) (by simp [results, Tryz.results28, go_sem, hc]) rfl ⟨rfl, ((hbf.setCell (Nat.le_refl _) _).setCell (Nat.le_refl _) _).setCell (Nat.le_refl _) _⟩
  case true =>
  rw [hf0] at f0
  have h0 : 0 < ws.length ∧ fst ws 0 = true ∧ txt ws 0 = [112] := ⟨by omega, hf0, ht0⟩
  clear HX0 hf0 ht0
  by_cases hl1 : ws.length < 2
  case pos =>
    rw [headL_n1 h0 (fun h => by omega)]
    have hlb : decide ((ws.length : Int) < 2) = true := by simp; omega
    clear HX2 HX3 HP2 HP3 HPL HNO hok hv hw h0
    show Calls _ _ _ _ (fun r w' => r = .returned (.tuple #[.int .i64 0, .int .i64 0, .agg #[.int .i64 101, .bool true, .int .i64 (posL ws 1 e)]]) ∧ Below w.heap.size w w')
    simp only [Flt.code, Flt.placed, Flt.pos] at HX1
    generalize posL ws 1 e = ps at *
    generalize ws.length = n at *
    go_enter Tryz.func28, Tryz.ntmps28
    go_wp2_with (go_at_call 29; refine (HX1.out _ (HBW.out _)).mono ?_; rintro e2 w9 ⟨rfl, hb9⟩; obtain ⟨hc, hf⟩ := bcell hb9)
    have hbf := (HBW.out _).trans (hb9.mono (by simp))
    exact bodyPost_ret (v := .tuple #[.int .i64 0, .int .i64 0, .agg #[.int .i64 101, .bool true, .int .i64 ps]]) (by simp [results, Tryz.results28, go_sem, hc]) rfl ⟨rfl, ((hbf.setCell (Nat.le_refl _) _).setCell (Nat.le_refl _) _).setCell (Nat.le_refl _) _⟩
  case neg =>
  have hlb : decide ((ws.length : Int) < 2) = false := by simp; omega
  have hkq : (1 : Int) < ws.length := by omega
  have t1 : w.cell? ⟨g, 3, none⟩ = some (.string (strOfNums (txt ws 1))) := by have := hw.text 1 (by omega); rwa [Nat.one_mul] at this
  have f1 : w.cell? ⟨g, 5, none⟩ = some (.bool (fst ws 1)) := by have := hw.fst 1 (by omega); rwa [Nat.one_mul] at this
  by_cases ht1 : txt ws 1 = [99, 110, 102]
  case neg =>
    rw [headL_n1 h0 (fun h => ht1 h.2.2)]
    have hne := str_ne (ys := [99, 110, 102]) (hok.at (show 1 < ws.length by omega)).2.1 (by intro x hx; simp at hx; omega) ht1
    rw [show (strOfNums [99, 110, 102]).toList = [99, 110, 102] from by rw [str_toList]; rfl] at hne
    clear HX2 HX3 HP2 HP3 HPL HNO hok hv hw f1 ht1 h0
    generalize strOfNums (txt ws 1) = s at *
    show Calls _ _ _ _ (fun r w' => r = .returned (.tuple #[.int .i64 0, .int .i64 0, .agg #[.int .i64 101, .bool true, .int .i64 (posL ws 1 e)]]) ∧ Below w.heap.size w w')
    simp only [Flt.code, Flt.placed, Flt.pos] at HX1
    generalize posL ws 1 e = ps at *
    generalize ws.length = n at *
    go_enter Tryz.func28, Tryz.ntmps28
    go_wp2_with (go_at_call 29; refine (HX1.out _ (HBW.out _)).mono ?_; rintro e2 w9 ⟨rfl, hb9⟩; obtain ⟨hc, hf⟩ := bcell hb9)
    have hbf := (HBW.out _).trans (hb9.mono (by simp))
    exact bodyPost_ret (v := .tuple #[.int .i64 0, .int .i64 0, .agg #[.int .i64 101, .bool true, .int .i64 ps]]) (by simp [results, Tryz.results28, go_sem, hc]) rfl ⟨rfl, ((hbf.setCell (Nat.le_refl _) _).setCell (Nat.le_refl _) _).setCell (Nat.le_refl _) _⟩
  case pos =>
  rw [ht1, show strOfNums [99, 110, 102] = ⟨#[99, 110, 102]⟩ from rfl] at t1
  cases hf1 : fst ws 1
  case true =>
    rw [headL_n1 h0 (fun h => by rw [hf1] at h; cases h.2.1)]
    rw [hf1] at f1
    clear HX2 HX3 HP2 HP3 HPL HNO hok hv hw ht1 hf1 h0
    show Calls _ _ _ _ (fun r w' => r = .returned (.tuple #[.int .i64 0, .int .i64 0, .agg #[.int .i64 101, .bool true, .int .i64 (posL ws 1 e)]]) ∧ Below w.heap.size w w')
    simp only [Flt.code, Flt.placed, Flt.pos] at HX1
    generalize posL ws 1 e = ps at *
    generalize ws.length = n at *
    go_enter Tryz.func28, Tryz.ntmps28
    go_wp2_with (go_at_call 29; refine (HX1.out _ (HBW.out _)).mono ?_; rintro e2 w9 ⟨rfl, hb9⟩; obtain ⟨hc, hf⟩ := bcell hb9)
    have hbf := (HBW.out _).trans (hb9.mono (by simp))
    exact bodyPost_ret (v := .tuple #[.int .i64 0, .int .i64 0, .agg #[.int .i64 101, .bool true, .int .i64 ps]]) (by simp [results, Tryz.results28, go_sem, hc]) rfl ⟨rfl, ((hbf.setCell (Nat.le_refl _) _).setCell (Nat.le_refl _) _).setCell (Nat.le_refl _) _⟩
  case false =>
  rw [hf1] at f1
  have HH := Lib.hid (headL_n2 h0 ⟨by omega, hf1, ht1⟩)
  clear HX1 hf1 ht1 h0 hok
  cases h2 : cntL ws 2 with
  | none =>
    rw [h2, Option.getD_none, Option.isSome_none] at HP2
    rw [show headL ws = (0, 0, .text 2) by rw [HH.out, h2]]
    clear HX3 HP3 HPL HNO hv hw h2 HH
    show Calls _ _ _ _ (fun r w' => r = .returned (.tuple #[.int .i64 0, .int .i64 0, .agg #[.int .i64 101, .bool true, .int .i64 (posL ws 2 e)]]) ∧ Below w.heap.size w w')
    simp only [Flt.code, Flt.placed, Flt.pos] at HX2
    generalize posL ws 2 e = ps at *
    generalize ws.length = n at *
    go_enter Tryz.func28, Tryz.ntmps28
    go_wp2_with (first
      | (go_at_call_of 59 (Value.int IntKind.i64 (2 : Int)); refine (HP2.out _ (HBW.out _)).mono ?_; rintro e2 w2 ⟨rfl, hp2⟩; have hq2 := (HBW.out _).trans (hp2.mono (by simp)))
      | (go_at_call 29; refine (HX2.out _ hq2).mono ?_; rintro e2 w9 ⟨rfl, hb9⟩; have hbf := hq2.trans (hb9.mono hq2.size); obtain ⟨hc, hf⟩ := bcell (hp2.trans (hb9.mono hp2.size))))
    exact bodyPost_ret (v := .tuple #[.int .i64 0, .int .i64 0, .agg #[.int .i64 101, .bool true, .int .i64 ps]]) (by simp [results, Tryz.results28, go_sem, hc]) rfl ⟨rfl, ((hbf.setCell (Nat.le_refl _) _).setCell (Nat.le_refl _) _).setCell (Nat.le_refl _) _⟩
  | some x =>
    have hk2 := cnt_in h2
    have hx0 := cnt_bd h2
    rw [h2, Option.getD_some, Option.isSome_some] at HP2
    have HG7 : Hid (∀ W, Below w.heap.size w W → W.cell? ⟨g, 7, none⟩ = some (.int .i64 (ws.getD 2 wd0).2.1)) := fun W hW => HG.out 7 _ (hw.pos 2 hk2) W hW
    have HPS2 : Hid (posL ws 2 e = (ws.getD 2 wd0).2.1) := by unfold posL; rw [if_pos hk2]; rfl
    have hk2c : (2 : Int) < ws.length := by omega
    by_cases hx : 4000 < x
    case pos =>
      rw [show headL ws = (0, 0, .lim 2) by rw [HH.out, h2]; simp [hx]]
      clear HX2 HX3 HP3 HNO hv hw h2 HH
      show Calls _ _ _ _ (fun r w' => r = .returned (.tuple #[.int .i64 0, .int .i64 0, .agg #[.int .i64 102, .bool true, .int .i64 (posL ws 2 e)]]) ∧ Below w.heap.size w w')
      rw [HPS2.out]
      generalize (ws.getD 2 wd0).2.1 = ps at *
      generalize ws.length = n at *
      go_enter Tryz.func28, Tryz.ntmps28
      go_wp2_with (first
        | (go_at_call_of 59 (Value.int IntKind.i64 (2 : Int)); refine (HP2.out _ (HBW.out _)).mono ?_; rintro e2 w2 ⟨rfl, hp2⟩; have hq2 := (HBW.out _).trans (hp2.mono (by simp)); have g7 := HG7.out _ hq2)
        | (go_at_call 21; refine (HPL.out _ _).mono ?_; rintro e2 w9 ⟨rfl, hb9⟩; have hbf := hq2.trans (hb9.mono hq2.size); obtain ⟨hc, hf⟩ := bcell (hp2.trans (hb9.mono hp2.size))))
      exact bodyPost_ret (v := .tuple #[.int .i64 0, .int .i64 0, .agg #[.int .i64 102, .bool true, .int .i64 ps]]) (by simp [results, Tryz.results28, go_sem, hc]) rfl ⟨rfl, ((hbf.setCell (Nat.le_refl _) _).setCell (Nat.le_refl _) _).setCell (Nat.le_refl _) _⟩
    case neg =>
    have hxb : decide (4000 < x) = false := by simpa using hx
    cases h3 : cntL ws 3 with
    | none =>
      rw [h3, Option.getD_none, Option.isSome_none] at HP3
      rw [show headL ws = (0, 0, .text 3) by rw [HH.out, h2, h3]; simp [hx]]
      clear HX2 HPL HNO hv hw h2 h3 HH HPS2 HG7 hx
      show Calls _ _ _ _ (fun r w' => r = .returned (.tuple #[.int .i64 0, .int .i64 0, .agg #[.int .i64 101, .bool true, .int .i64 (posL ws 3 e)]]) ∧ Below w.heap.size w w')
      simp only [Flt.code, Flt.placed, Flt.pos] at HX3
      generalize posL ws 3 e = ps at *
      generalize ws.length = n at *
      go_enter Tryz.func28, Tryz.ntmps28
      go_wp2_with (first
        | (go_at_call_of 59 (Value.int IntKind.i64 (2 : Int)); refine (HP2.out _ (HBW.out _)).mono ?_; rintro e2 w2 ⟨rfl, hp2⟩; have hq2 := (HBW.out _).trans (hp2.mono (by simp)))
        | (go_at_call_of 59 (Value.int IntKind.i64 (3 : Int)); refine (HP3.out _ hq2).mono ?_; rintro e2 w3 ⟨rfl, hp3⟩; have hq3 := hq2.trans (hp3.mono hq2.size); have hz3 := hp2.trans (hp3.mono hp2.size))
        | (go_at_call 29; refine (HX3.out _ hq3).mono ?_; rintro e2 w9 ⟨rfl, hb9⟩; have hbf := hq3.trans (hb9.mono hq3.size); obtain ⟨hc, hf⟩ := bcell (hz3.trans (hb9.mono hz3.size))))
      exact bodyPost_ret (v := .tuple #[.int .i64 0, .int .i64 0, .agg #[.int .i64 101, .bool true, .int .i64 ps]]) (by simp [results, Tryz.results28, go_sem, hc]) rfl ⟨rfl, ((hbf.setCell (Nat.le_refl _) _).setCell (Nat.le_refl _) _).setCell (Nat.le_refl _) _⟩
    | some y =>
      have hk3 := cnt_in h3
      have hy0 := cnt_bd h3
      rw [h3, Option.getD_some, Option.isSome_some] at HP3
      have HG10 : Hid (∀ W, Below w.heap.size w W → W.cell? ⟨g, 10, none⟩ = some (.int .i64 (ws.getD 3 wd0).2.1)) := fun W hW => HG.out 10 _ (hw.pos 3 hk3) W hW
      have HPS3 : Hid (posL ws 3 e = (ws.getD 3 wd0).2.1) := by unfold posL; rw [if_pos hk3]; rfl
      have hk3c : (3 : Int) < ws.length := by omega
      by_cases hy : 20000 < y
      case pos =>
        rw [show headL ws = (0, 0, .lim 3) by rw [HH.out, h2, h3]; simp [hx, hy]]
        clear HX2 HX3 HNO hv hw h2 h3 HH HPS2 HG7 hx
        show Calls _ _ _ _ (fun r w' => r = .returned (.tuple #[.int .i64 0, .int .i64 0, .agg #[.int .i64 102, .bool true, .int .i64 (posL ws 3 e)]]) ∧ Below w.heap.size w w')
        rw [HPS3.out]
        generalize (ws.getD 3 wd0).2.1 = ps at *
        generalize ws.length = n at *
        go_enter Tryz.func28, Tryz.ntmps28
        go_wp2_with (first
          | (go_at_call_of 59 (Value.int IntKind.i64 (2 : Int)); refine (HP2.out _ (HBW.out _)).mono ?_; rintro e2 w2 ⟨rfl, hp2⟩; have hq2 := (HBW.out _).trans (hp2.mono (by simp)))
          | (go_at_call_of 59 (Value.int IntKind.i64 (3 : Int)); refine (HP3.out _ hq2).mono ?_; rintro e2 w3 ⟨rfl, hp3⟩; have hq3 := hq2.trans (hp3.mono hq2.size); have hz3 := hp2.trans (hp3.mono hp2.size); have g10 := HG10.out _ hq3)
          | (go_at_call 21; refine (HPL.out _ _).mono ?_; rintro e2 w9 ⟨rfl, hb9⟩; have hbf := hq3.trans (hb9.mono hq3.size); obtain ⟨hc, hf⟩ := bcell (hz3.trans (hb9.mono hz3.size))))
        exact bodyPost_ret (v := .tuple #[.int .i64 0, .int .i64 0, .agg #[.int .i64 102, .bool true, .int .i64 ps]]) (by simp [results, Tryz.results28, go_sem, hc]) rfl ⟨rfl, ((hbf.setCell (Nat.le_refl _) _).setCell (Nat.le_refl _) _).setCell (Nat.le_refl _) _⟩
      case neg =>
        rw [show headL ws = (x, y, .ok) by rw [HH.out, h2, h3]; simp [hx, hy]]
        have hyb : decide (20000 < y) = false := by simpa using hy
        clear HX2 HX3 HPL hv hw h2 h3 HH HPS2 HPS3 HG7 HG10 hx hy
        show Calls _ _ _ _ (fun r w' => r = .returned (.tuple #[.int .i64 x, .int .i64 y, .agg #[.int .i64 0, .bool false, .int .i64 0]]) ∧ Below w.heap.size w w')
        generalize ws.length = n at *
        go_enter Tryz.func28, Tryz.ntmps28
        go_wp2_with (first
          | (go_at_call_of 59 (Value.int IntKind.i64 (2 : Int)); refine (HP2.out _ (HBW.out _)).mono ?_; rintro e2 w2 ⟨rfl, hp2⟩; have hq2 := (HBW.out _).trans (hp2.mono (by simp)))
          | (go_at_call_of 59 (Value.int IntKind.i64 (3 : Int)); refine (HP3.out _ hq2).mono ?_; rintro e2 w3 ⟨rfl, hp3⟩; have hq3 := hq2.trans (hp3.mono hq2.size); have hz3 := hp2.trans (hp3.mono hp2.size))
          | (go_at_call 42; refine (HNO.out _).mono ?_; rintro e2 w9 ⟨rfl, hb9⟩; have hbf := hq3.trans (hb9.mono hq3.size); obtain ⟨hc, hf⟩ := bcell (hz3.trans (hb9.mono hz3.size))))
        exact bodyPost_ret (v := .tuple #[.int .i64 x, .int .i64 y, .agg #[.int .i64 0, .bool false, .int .i64 0]]) (by simp [results, Tryz.results28, go_sem, hc]) rfl ⟨rfl, ((hbf.setCell (Nat.le_refl _) _).setCell (Nat.le_refl _) _).setCell (Nat.le_refl _) _⟩
end Go.Proofs.YtfoohdknjacenaaGreatDoor

namespace Go.Proofs.YtfoohdknjacenaaGreatDoor
open Go.RowKit

set_option maxHeartbeats 400000 in
theorem refIs_any (l v : Int) (w : World) (h1 : -9223372036854775807 ≤ l) (h2 : l ≤ 9223372036854775807) (hv1 : -9223372036854775808 ≤ v) (hv2 : v ≤ 9223372036854775807) :
    Calls Tryz.prog 61 #[.int .i64 l, .int .i64 v] w fun e w' => e = .returned (.bool (isB v l)) ∧ w = w' := by
  have H := Lib.hid (show isB v l = decide (l ≠ 0 ∧ l ≤ v ∧ -v ≤ l) from by
    unfold isB absI; rw [Bool.eq_iff_iff]; simp; split <;> omega)
  generalize isB v l = r at *
  by_cases h0 : l = 0
  · subst h0
    go_enter Tryz.func61, Tryz.ntmps61
    go_wp2
    go_ret
    exact ⟨ret_bool (by rw [H.out]; simp), rfl⟩
  have hb0 : (l == 0) = false := by simp [h0]
  have hb0' : (l != 0) = true := by simp [h0]
  by_cases hle : l ≤ v
  · have hd : decide (l ≤ v) = true := by simp [hle]
    go_enter Tryz.func61, Tryz.ntmps61
    go_wp2
    go_ret
    exact ⟨ret_bool (by rw [H.out]; simp [h0, hle]), rfl⟩
  · have hd : decide (l ≤ v) = false := by simp; omega
    go_enter Tryz.func61, Tryz.ntmps61
    go_wp2
    go_ret
    exact ⟨ret_bool (by rw [H.out]; simp; omega), rfl⟩

def RCPost (w : World) (ws : List Wd) (e : Int) (R : List (List Int) × Flt) (r : Ending) (w' : World) : Prop := (∃ cv, r = .returned (.tuple #[cv, fltV ws e R.2]) ∧ CRow w' (w.heap.size + 1) cv R.1) ∧ Below w.heap.size w w'

set_option maxHeartbeats 4000000 in
theorem refCls_any (v : Value) (ws : List Wd) (e vars many : Int) (w : World) (hv : WRowO w v ws) (hok : WOk ws) (hn : ws.length ≤ 4000) (hv1 : -9223372036854775808 ≤ vars) (hv2 : vars ≤ 9223372036854775807) :
    Calls Tryz.prog 32 #[v, .int .i64 e, .int .i64 vars, .int .i64 many] w (RCPost w ws e (clausesL vars many 0 ws [] [])) := by
  have HB0 : Hid (∀ o, Below w.heap.size w (w.alloc o)) := fun o => (Below.refl _ w).alloc (Nat.le_refl _) _
  have HTX := Lib.hid (fun (k : Nat) W (hW : Below w.heap.size w W) => refText_any v ws k e W (hv.keep hW))
  have HNO := Lib.hid (fun W => none_any W)
  obtain ⟨a, cap, rfl, hcl, hcm, hw⟩ := hv
  have HWD := Lib.hid hw; clear hw
  have HOK := Lib.hid hok; clear hok
  have hpost : ∀ W R cv, R = clausesL vars many 0 ws [] [] → Below w.heap.size w W → CRow W (w.heap.size + 1) cv R.1 → ∀ fv, fv = fltV ws e R.2 → RCPost w ws e (clausesL vars many 0 ws [] []) (.returned (.tuple #[cv, fv])) W := fun W R cv hR hb hc fv hf => by
    rw [← hR, hf]
    exact ⟨⟨_, rfl, hc⟩, hb⟩
  have HPO := Lib.hid hpost; clear hpost
  generalize hR : clausesL vars many 0 ws [] [] = R at *
  have HR := Lib.hid hR; clear hR
  have HEND := Lib.hid (fun dn cur (h : (dn.length : Int) < many) => cl_end (vars := vars) (many := many) (ws := ws) (i := ws.length) (out := dn) (c := cur) (Nat.le_refl _) h)
  have HDONE := Lib.hid (fun dn cur (h : ¬ (dn.length : Int) < many) => cl_done (vars := vars) (many := many) (ws := ws) (i := ws.length) (out := dn) (c := cur) (Nat.le_refl _) h)
  have HFV := Lib.hid (fun k => show fltV ws e (.text k) = .agg #[.int .i64 101, .bool true, .int .i64 (posL ws k e)] from rfl)
  have HFN := Lib.hid (show fltV ws e .ok = .agg #[.int .i64 0, .bool false, .int .i64 0] from rfl)
  unfold faultV at HNO
  generalize hN : ws.length = n at *
  have HN := Lib.hid hN; clear hN
  generalize hP : RCPost w ws e R = P at *
  clear hP
  go_enter Tryz.func32, Tryz.ntmps32
  go_wp2_with fail
  have hw0b := HB0.out (.cells #[.int .i64 0, .bool false, .int .i64 0] 35)
  have hw0s : (w.alloc (.cells #[.int .i64 0, .bool false, .int .i64 0] 35)).heap.size = w.heap.size + 1 := by simp
  have hw0c : ∀ k v, (#[Value.int .i64 0, .bool false, .int .i64 0] : Array Value)[k]? = some v → (w.alloc (.cells #[.int .i64 0, .bool false, .int .i64 0] 35)).cell? ⟨w.heap.size, k, none⟩ = some v := fun k v h => by rw [World.cell?_alloc_at _ _ _ _ (by simp)]; exact h
  have hw0f : ∀ k, (w.alloc (.cells #[.int .i64 0, .bool false, .int .i64 0] 35)).frozen? ⟨w.heap.size, k, none⟩ = false := fun k => World.frozen?_alloc_at _ _ _ _ (by simp)
  generalize w.alloc (.cells #[.int .i64 0, .bool false, .int .i64 0] 35) = w0 at *
  have HW0B := Lib.hid hw0b; clear hw0b
  have HRES : Hid (∀ W, Below w0.heap.size w0 W → W.cell? ⟨w.heap.size, 0, none⟩ = some (.int .i64 0) ∧ W.cell? ⟨w.heap.size, 1, none⟩ = some (.bool false) ∧ W.cell? ⟨w.heap.size, 2, none⟩ = some (.int .i64 0) ∧ (∀ k, W.frozen? ⟨w.heap.size, k, none⟩ = false) ∧ w.heap.size + 1 ≤ W.heap.size) := fun W hW => by
    have hlt : w.heap.size < w0.heap.size := by omega
    refine ⟨(hW.cell (p := ⟨w.heap.size, 0, none⟩) hlt).trans (hw0c 0 _ rfl), (hW.cell (p := ⟨w.heap.size, 1, none⟩) hlt).trans (hw0c 1 _ rfl), (hW.cell (p := ⟨w.heap.size, 2, none⟩) hlt).trans (hw0c 2 _ rfl), fun k => (hW.frozen (p := ⟨w.heap.size, k, none⟩) hlt).trans (hw0f k), by have := hW.size; omega⟩
  clear hw0c hw0f
  have HSZ := Lib.hid hw0s; clear hw0s
  go_loopw [10, 11, 12, 13] (fun o c al i wr => ∃ (k q : Nat) (vs : List Value) (dn : List (List Int)) (cur : List Int), k ≤ n ∧ i = .int .i64 k ∧ al = .int .i64 q ∧ q ≤ k ∧ ClG wr (w.heap.size + 1) o c vs dn cur ∧ Below w0.heap.size w0 wr ∧ dn.length ≤ k ∧ cur.length ≤ k ∧ Hid (clausesL vars many k (ws.drop k) dn cur = R)) (fun _ _ _ i _ => n - (intOf i).toNat)
  case atStart => exact ⟨0, 0, _, _, _, Nat.zero_le _, rfl, rfl, Nat.le_refl _, ClG.start _ _, Below.refl _ _, Nat.le_refl _, Nat.le_refl _, HR.out⟩
  case round =>
    obtain ⟨k, q, vs, dn, cur, hk, rfl, rfl, hqk, hI, hbr, hl1, hl2, HQ⟩ := hrel
    have hownc := hI.row
    have hsz : w.heap.size + 1 ≤ wr.heap.size := (HRES.out _ hbr).2.2.2.2
    obtain ⟨ac, capc, rfl, hcc1, hcc2⟩ := own_shape hI.row
    obtain ⟨ao, capo, rfl, hco1, hco2⟩ := own_shape hI.out
    unfold maxLen at hcc2 hco2 hcm
    have HI := Lib.hid hI; clear hI
    have HBR := Lib.hid (show Below w.heap.size w wr from HW0B.out.trans (hbr.mono (by have := HSZ.out; omega)))
    have HBR0 := Lib.hid hbr; clear hbr
    have HFIN : Hid (∀ (wr2 W : World) (x y z : Value), Below wr2.heap.size wr2 W → Below w.heap.size w wr2 → Below w.heap.size w (((W.setCell ⟨w.heap.size, 0, none⟩ x).setCell ⟨w.heap.size, 1, none⟩ y).setCell ⟨w.heap.size, 2, none⟩ z)) := fun wr2 W x y z h1 h2 => (((h2.trans (h1.mono h2.size)).setCell (Nat.le_refl _) _).setCell (Nat.le_refl _) _).setCell (Nat.le_refl _) _
    have HTXK := Lib.hid (HTX.out k)
    rw [HFV.out k] at HTXK
    have HFVK := Lib.hid (HFV.out k)
    generalize hps : posL ws k e = ps at *
    clear hps
    by_cases hlt : k < n
    · have hkl : k < ws.length := by rw [HN.out]; exact hlt
      obtain ⟨g, off, ha, hwc0⟩ := HWD.out.resolve_left (by omega)
      subst ha
      have hwc := hwc0.keep HBR.out
      have t1 : wr.cell? ⟨g, off + k * 3, none⟩ = some (.string (strOfNums (txt ws k))) := hwc.text k hkl
      obtain ⟨x1, x2, x3⟩ := HOK.out.at hkl
      have HNUM := Lib.hid (fun W => refNum_any (txt ws k) W x2 x3)
      unfold NumPost at HNUM
      have HNB := Lib.hid (fun l (h : numL (txt ws k) = some l) => numL_bd h)
      have HMORE := Lib.hid (fun (h : many ≤ (dn.length : Int)) => cl_more (vars := vars) (c := cur) hkl h)
      have HNONE := Lib.hid (fun (h : numL (txt ws k) = none) => cl_none (vars := vars) (many := many) (out := dn) (c := cur) hkl h)
      have HZERO := Lib.hid (fun h1 (h : numL (txt ws k) = some 0) => cl_zero (vars := vars) (many := many) (out := dn) (c := cur) hkl h1 h)
      have HLIT := Lib.hid (fun l h1 (h : numL (txt ws k) = some l) => cl_lit (vars := vars) (many := many) (out := dn) (c := cur) hkl h1 h)
      have HBADL := Lib.hid (fun l (h : numL (txt ws k) = some l) => cl_bad (vars := vars) (many := many) (out := dn) (c := cur) hkl h)
      have HIS := Lib.hid (fun (l : Int) (h1 : -1000000000 < l ∧ l < 1000000000) W => refIs_any l vars W (by omega) (by omega) hv1 hv2)
      have hkb : decide ((n : Int) ≤ (k : Int)) = false := by simp; omega
      have hkc : decide ((k : Int) < (n : Int)) = true := by simp; omega
      have hkd : (k : Int) < n := by omega
      clear hwc hwc0 x1 x2 x3 hkl
      generalize txt ws k = xs at *
      generalize strOfNums xs = s at *
      generalize hdl : dn.length = d at *
      have HDL := Lib.hid hdl; clear hdl
      generalize hcu : cur.length = cu at *
      have HCU := Lib.hid hcu; clear hcu
      by_cases hmany : many ≤ (d : Int)
      · have HE := Lib.hid (HQ.out.symm.trans (HMORE.out hmany))
        have hmb : decide ((d : Int) < many) = false := by simp; omega
        clear HMORE HNONE HZERO HLIT HBADL HIS HNUM hmany
        go_wp2_with (go_at_call 29; refine (HTXK.out _ HBR.out).mono ?_; rintro e2 w9 ⟨rfl, hb9⟩; obtain ⟨hc0, hc1, hc2, hf, hs9⟩ := HRES.out w9 (HBR0.out.trans (hb9.mono HBR0.out.size)))
        exact bodyPost_ret (v := .tuple #[.slice none 0 0, .agg #[.int .i64 101, .bool true, .int .i64 ps]]) (by simp [results, Tryz.results32, go_sem, hc0, hc1, hc2]) rfl (HPO.out _ _ _ HE.out.symm (HFIN.out wr w9 _ _ _ hb9 HBR.out) (CRow.nil _ _) _ HFVK.out.symm)
      · have hmb : decide ((d : Int) < many) = true := by simp; omega
        have HM := Lib.hid (show (d : Int) < many by omega)
        clear hmany HMORE
        cases hnum : numL xs with
        | none =>
          rw [hnum] at HNUM
          have HE := Lib.hid (HQ.out.symm.trans (HNONE.out hnum))
          clear hnum HNB HNONE HZERO HLIT HBADL HIS
          go_wp2_with (first
            | (go_at_call 30; refine (HNUM.out _).mono ?_; rintro e2 w2 ⟨rfl, hb2⟩; have hbk := HBR.out.trans (hb2.mono HBR.out.size); have hbk0 := HBR0.out.trans (hb2.mono HBR0.out.size))
            | (go_at_call 29; refine (HTXK.out _ hbk).mono ?_; rintro e2 w9 ⟨rfl, hb9⟩; obtain ⟨hc0, hc1, hc2, hf, hs9⟩ := HRES.out w9 (hbk0.trans (hb9.mono hbk0.size))))
          exact bodyPost_ret (v := .tuple #[.slice none 0 0, .agg #[.int .i64 101, .bool true, .int .i64 ps]]) (by simp [results, Tryz.results32, go_sem, hc0, hc1, hc2]) rfl (HPO.out _ _ _ HE.out.symm (HFIN.out w2 w9 _ _ _ hb9 hbk) (CRow.nil _ _) _ HFVK.out.symm)
        | some l =>
          have hlb := HNB.out l hnum
          rw [hnum] at HNUM
          by_cases hl0 : l = 0
          · subst hl0
            have HQ' := Lib.hid ((HZERO.out HM.out hnum).symm.trans HQ.out)
            clear hnum HNB HNONE HZERO HLIT HBADL HIS HTXK HQ
            go_wp2_with (first
              | (go_at_call 30; refine (HNUM.out _).mono ?_; rintro e2 w2 ⟨rfl, hb2⟩; have hbk := HBR.out.trans (hb2.mono HBR.out.size); have hbk0 := HBR0.out.trans (hb2.mono HBR0.out.size); have HI2 := Lib.hid (HI.out.keep hb2); have ho2 := HI2.out.out; rw [HDL.out] at ho2; have hs2 : w.heap.size + 1 ≤ w2.heap.size := (HRES.out _ hbk0).2.2.2.2)
              | (at_builtin; refine wpList_appV 25 46 (.slice none 0 0) 24 Tryz.underlying25 infoInts rfl (by decide) rfl _ _ rfl w2 (w.heap.size + 1) _ _ _ _ rfl ho2 hs2 (by omega) _ rfl rfl rfl ?_; intro o' w3 ho3 hap3))
            go_roundw
            case rel => exact ⟨k + 1, q, _, dn ++ [cur], [], by omega, by go_num, rfl, by omega, HI2.out.push hap3 (by rw [HDL.out]; exact ho3), hbk0.trans (by have := hap3.below; exact this.mono (by have := HSZ.out; omega)), by rw [List.length_append, HDL.out, List.length_singleton]; omega, by simp, HQ'.out⟩
            case measure => go_light; simp [intOf]; omega
          · have hl0b : (l == 0) = false := by simp [hl0]
            have hl0c : (l != 0) = true := by simp [hl0]
            have HISL := Lib.hid (HIS.out l hlb)
            rw [show isB vars l = isF l vars from isF_abs l vars] at HISL
            cases hisf : isF l vars with
            | false =>
              have HE := Lib.hid (HQ.out.symm.trans (HBADL.out l hnum hl0 hisf))
              rw [hisf] at HISL
              clear hnum HNB HNONE HZERO HLIT HBADL HIS HQ hisf hl0
              go_wp2_with (first
                | (go_at_call 30; refine (HNUM.out _).mono ?_; rintro e2 w2 ⟨rfl, hb2⟩; have hbk := HBR.out.trans (hb2.mono HBR.out.size); have hbk0 := HBR0.out.trans (hb2.mono HBR0.out.size))
                | (go_at_call 61; refine (HISL.out _).mono ?_; rintro e2 w' ⟨rfl, rfl⟩)
                | (go_at_call 29; refine (HTXK.out _ hbk).mono ?_; rintro e2 w9 ⟨rfl, hb9⟩; obtain ⟨hc0, hc1, hc2, hf, hs9⟩ := HRES.out w9 (hbk0.trans (hb9.mono hbk0.size))))
              exact bodyPost_ret (v := .tuple #[.slice none 0 0, .agg #[.int .i64 101, .bool true, .int .i64 ps]]) (by simp [results, Tryz.results32, go_sem, hc0, hc1, hc2]) rfl (HPO.out _ _ _ HE.out.symm (HFIN.out w2 w9 _ _ _ hb9 hbk) (CRow.nil _ _) _ HFVK.out.symm)
            | true =>
              have HQ' := Lib.hid ((HLIT.out l HM.out hnum hl0 hisf).symm.trans HQ.out)
              rw [hisf] at HISL
              have hq8 : decide ((80000 : Int) < (q : Int) + 1) = false := by simp; omega
              clear hnum HNB HNONE HZERO HLIT HBADL HIS HTXK HQ hisf hl0
              go_wp2_with (first
                | (go_at_call 30; refine (HNUM.out _).mono ?_; rintro e2 w2 ⟨rfl, hb2⟩; have hbk := HBR.out.trans (hb2.mono HBR.out.size); have hbk0 := HBR0.out.trans (hb2.mono HBR0.out.size); have HI2 := Lib.hid (HI.out.keep hb2); have hr2 := HI2.out.row; rw [HCU.out] at hr2; have hs2 : w.heap.size + 1 ≤ w2.heap.size := (HRES.out _ hbk0).2.2.2.2)
                | (go_at_call 61; refine (HISL.out _).mono ?_; rintro e2 w' ⟨rfl, rfl⟩)
                | (at_builtin; refine wpList_app1 rfl _ _ rfl w2 (w.heap.size + 1) _ _ _ _ hr2 hs2 (by omega) rfl rfl ?_; intro v' w3 hown3 hap3))
              go_roundw
              case rel => exact ⟨k + 1, q + 1, vs, dn, cur ++ [_], by omega, by go_num, by go_num, by omega, HI2.out.add hap3 (by rw [HCU.out]; exact hown3), hbk0.trans (by have := hap3.below; exact this.mono (by have := HSZ.out; omega)), by rw [HDL.out]; omega, by rw [List.length_append, HCU.out, List.length_singleton]; omega, HQ'.out⟩
              case measure => go_light; simp [intOf]; omega
    · have hkn : k = n := by omega
      subst hkn
      by_cases hd : (dn.length : Int) < many
      · have HE := Lib.hid (HQ.out.symm.trans (HEND.out dn cur hd))
        clear HEND HDONE
        generalize dn.length = d at *
        go_wp2_with (go_at_call 29; refine (HTXK.out _ HBR.out).mono ?_; rintro e2 w9 ⟨rfl, hb9⟩; obtain ⟨hc0, hc1, hc2, hf, hs9⟩ := HRES.out w9 (HBR0.out.trans (hb9.mono HBR0.out.size)))
        exact bodyPost_ret (v := .tuple #[.slice none 0 0, .agg #[.int .i64 101, .bool true, .int .i64 ps]]) (by simp [results, Tryz.results32, go_sem, hc0, hc1, hc2]) rfl (HPO.out _ _ _ HE.out.symm (HFIN.out wr w9 _ _ _ hb9 HBR.out) (CRow.nil _ _) _ HFVK.out.symm)
      · have HE := Lib.hid (HQ.out.symm.trans (HDONE.out dn cur (by omega)))
        have hdb : decide ((dn.length : Int) < many) = false := by simpa using hd
        have HRW := Lib.hid (show CRow _ _ _ _ from ⟨_, _, _, HI.out⟩)
        clear HEND HDONE hd
        generalize hdl : dn.length = d at *
        have HDL := Lib.hid hdl; clear hdl
        go_wp2_with (go_at_call 42; refine (HNO.out _).mono ?_; rintro e2 w9 ⟨rfl, hb9⟩; obtain ⟨hc0, hc1, hc2, hf, hs9⟩ := HRES.out w9 (HBR0.out.trans (hb9.mono HBR0.out.size)))
        exact bodyPost_ret (v := .tuple #[.slice ao d capo, .agg #[.int .i64 0, .bool false, .int .i64 0]]) (by simp [results, Tryz.results32, go_sem, hc0, hc1, hc2]) rfl (HPO.out _ _ _ HE.out.symm (HFIN.out wr w9 _ _ _ hb9 HBR.out) ((((HRW.out.keep hb9).set _ _ _ (by omega)).set _ _ _ (by omega)).set _ _ _ (by omega)) _ HFN.out.symm)
end Go.Proofs.YtfoohdknjacenaaGreatDoor

namespace Go.Proofs.YtfoohdknjacenaaGreatDoor
open Go.RowKit

def nearB (l : Int) : Bool := !decide (l < -1152921504606846976)
theorem nearB_iff (l : Int) : nearB l = true ↔ -1152921504606846976 ≤ l := by unfold nearB; simp

set_option maxHeartbeats 1000000 in
theorem near_any (v : Value) (xs : List Int) (w : World) (hv : Row w v xs) :
    Calls Tryz.prog 38 #[v] w fun e w' => e = .returned (.bool (xs.all nearB)) ∧ w = w' := by
  obtain ⟨a, c, rfl, hxc, hcm, hx⟩ := hv
  unfold maxLen at hcm
  have HX := Lib.hid hx; clear hx
  generalize hN : xs.length = n at *
  have HN := Lib.hid hN; clear hN
  go_enter Tryz.func38, Tryz.ntmps38
  go_wp2
  go_loop [3] (fun i => ∃ k : Nat, k ≤ n ∧ i = .int .i64 k ∧ Hid ((xs.take k).all nearB = true)) (fun i => n - (intOf i).toNat)
  case atStart => exact ⟨0, Nat.zero_le _, rfl, by simp [Hid]⟩
  case round =>
    obtain ⟨k, hk, rfl, HQ⟩ := hrel
    by_cases hlt : k < n
    · obtain ⟨b, off, ha, hb, hc⟩ := HX.out.resolve_left (by omega)
      subst ha
      have g1 : w.cell? ⟨b, off + k, none⟩ = some (.int .i64 (xs.getD k 0)) := hc k hlt
      clear hc
      have hkl : k < xs.length := by rw [HN.out]; exact hlt
      have HT := Lib.hid (show (xs.take (k + 1)).all nearB = ((xs.take k).all nearB && nearB (xs.getD k 0)) by rw [take_snoc xs k hkl, List.all_append]; simp)
      have HF := Lib.hid (show nearB (xs.getD k 0) = false → xs.all nearB = false from fun h => by
        rw [List.all_eq_false]
        exact ⟨xs[k], List.getElem_mem hkl, by simpa [List.getD, hkl] using h⟩)
      clear hkl
      generalize xs.getD k 0 = y at *
      by_cases hy : y < -1152921504606846976
      · go_wp2
        go_ret
        exact ⟨by rw [HF.out (by unfold nearB; simp [hy])]; rfl, rfl⟩
      · go_wp2
        go_round
        case rel => exact ⟨k + 1, by omega, by go_num, by unfold Hid; rw [HT.out, HQ.out]; unfold nearB; simp; omega⟩
        case measure => simp [intOf]; omega
    · have hkn : k = n := by omega
      have HA := Lib.hid (show xs.all nearB = true by have := HQ.out; rwa [hkn, List.take_of_length_le (by rw [HN.out]; exact Nat.le_refl _)] at this)
      clear hlt
      go_wp2
      go_ret
      exact ⟨by rw [HA.out]; rfl, rfl⟩
end Go.Proofs.YtfoohdknjacenaaGreatDoor

namespace Go.Proofs.YtfoohdknjacenaaGreatDoor
open Go.RowKit

set_option maxHeartbeats 1000000 in
theorem nearAll_any (a : Option Addr) (cap : Nat) (xss : List (List Int)) (w : World) (hr : RowsAt w a cap xss) :
    Calls Tryz.prog 36 #[.slice a xss.length cap] w fun e w' => e = .returned (.bool (xss.all fun xs => xs.all nearB)) ∧ w = w' := by
  obtain ⟨hc1, hc2, hr⟩ := hr
  unfold maxLen at hc2
  have HR := Lib.hid hr; clear hr
  generalize hN : xss.length = n at *
  have HN := Lib.hid hN; clear hN
  go_enter Tryz.func36, Tryz.ntmps36
  go_wp2_with fail
  go_loop [3] (fun i => ∃ k : Nat, k ≤ n ∧ i = .int .i64 k ∧ Hid (((xss.take k).all fun xs => xs.all nearB) = true)) (fun i => n - (intOf i).toNat)
  case atStart => exact ⟨0, Nat.zero_le _, rfl, by simp [Hid]⟩
  case round =>
    obtain ⟨k, hk, rfl, HQ⟩ := hrel
    by_cases hlt : k < n
    · obtain ⟨b, off, ha, hb, hc⟩ := HR.out.resolve_left (by omega)
      subst ha
      obtain ⟨v, g1, hv⟩ := hc k hlt
      clear hc
      have hkl : k < xss.length := by rw [HN.out]; exact hlt
      have hgk : xss.getD k [] = xss[k] := by simp [List.getD, hkl]
      have HT := Lib.hid (show ((xss.take (k + 1)).all fun xs => xs.all nearB) = (((xss.take k).all fun xs => xs.all nearB) && (xss.getD k []).all nearB) by
        rw [List.take_succ_eq_append_getElem hkl, List.all_append, hgk]; simp)
      have HF := Lib.hid (show (xss.getD k []).all nearB = false → (xss.all fun xs => xs.all nearB) = false from fun h => by
        rw [List.all_eq_false]
        exact ⟨xss[k], List.getElem_mem hkl, by rw [← hgk, h]; simp⟩)
      have HNE := Lib.hid (fun W (h : Row W v (xss.getD k [])) => near_any v _ W h)
      clear hgk hkl
      generalize xss.getD k [] = ys at *
      obtain ⟨av, cv, rfl, hrv⟩ := hv
      have HRV := Lib.hid (show Row w (.slice av ys.length cv) ys from ⟨_, _, rfl, hrv⟩)
      clear hrv
      cases hy : ys.all nearB with
      | false =>
        rw [hy] at HNE
        have HF' := Lib.hid (HF.out hy)
        clear HF hy
        go_wp2_with (go_at_call 38; refine (HNE.out _ HRV.out).mono ?_; rintro e w' ⟨rfl, rfl⟩)
        go_ret
        exact ⟨by rw [HF'.out]; rfl, rfl⟩
      | true =>
        rw [hy] at HNE
        have HT' := Lib.hid (show ((xss.take (k + 1)).all fun xs => xs.all nearB) = true by rw [HT.out, HQ.out, hy]; rfl)
        clear HF hy HT
        go_wp2_with (go_at_call 38; refine (HNE.out _ HRV.out).mono ?_; rintro e w' ⟨rfl, rfl⟩)
        go_round
        case rel => exact ⟨k + 1, by omega, by go_num, HT'.out⟩
        case measure => simp [intOf]; omega
    · have hkn : k = n := by omega
      have HA := Lib.hid (show (xss.all fun xs => xs.all nearB) = true by have := HQ.out; rwa [hkn, List.take_of_length_le (by rw [HN.out]; exact Nat.le_refl _)] at this)
      clear hlt
      go_wp2
      go_ret
      exact ⟨by rw [HA.out]; rfl, rfl⟩

theorem sumTo_bd (xss : List (List Int)) (M : Nat) (h : ∀ xs ∈ xss, xs.length ≤ M) : ∀ k, k ≤ xss.length → sumTo xss k ≤ k * M
  | 0, _ => by simp [sumTo]
  | k + 1, hk => by
    rw [sumTo_succ _ _ (by omega)]
    have h1 := sumTo_bd xss M h k (by omega)
    have h2 : (xss.getD k []).length ≤ M := h _ (by simp [List.getD, show k < xss.length by omega])
    rw [Nat.add_mul]
    omega

set_option maxHeartbeats 1000000 in
theorem count_any (a : Option Addr) (cap : Nat) (xss : List (List Int)) (w : World) (hr : RowsAt w a cap xss) (hn : xss.length ≤ 60) (hlen : ∀ xs ∈ xss, xs.length ≤ 140737488355328) :
    Calls Tryz.prog 37 #[.slice a xss.length cap] w fun e w' => e = .returned (.int .i64 (sumTo xss xss.length)) ∧ w = w' := by
  obtain ⟨hc1, hc2, hr⟩ := hr
  unfold maxLen at hc2
  have HR := Lib.hid hr; clear hr
  have HBD := Lib.hid (sumTo_bd xss _ hlen)
  have HLEN := Lib.hid hlen; clear hlen
  generalize hN : xss.length = n at *
  have HN := Lib.hid hN; clear hN
  go_enter Tryz.func37, Tryz.ntmps37
  go_wp2_with fail
  go_loop [3, 4] (fun s i => ∃ k : Nat, k ≤ n ∧ i = .int .i64 k ∧ s = .int .i64 (sumTo xss k)) (fun _ i => n - (intOf i).toNat)
  case atStart => exact ⟨0, Nat.zero_le _, rfl, by simp [sumTo]⟩
  case round =>
    obtain ⟨k, hk, rfl, rfl⟩ := hrel
    by_cases hlt : k < n
    · obtain ⟨b, off, ha, hb, hc⟩ := HR.out.resolve_left (by omega)
      subst ha
      obtain ⟨v, g1, hv⟩ := hc k hlt
      clear hc
      have hkl : k < xss.length := by rw [HN.out]; exact hlt
      have HSU := Lib.hid (sumTo_succ xss k hkl)
      have hs1 := HBD.out k hk
      have hle : (xss.getD k []).length ≤ 140737488355328 := HLEN.out _ (by simp [List.getD, hkl])
      have hs2 : sumTo xss k ≤ 60 * 140737488355328 := Nat.le_trans hs1 (Nat.mul_le_mul_right _ (by omega))
      clear hkl hs1
      obtain ⟨av, cv, rfl, hrv⟩ := hv
      clear hrv
      generalize (xss.getD k []).length = m at *
      generalize hsk : sumTo xss k = sk at *
      go_wp2_with fail
      go_round
      case rel => exact ⟨k + 1, by omega, by go_num, by rw [HSU.out]; go_num⟩
      case measure => simp [intOf]; omega
    · have hkn : k = n := by omega
      clear hlt
      subst hkn
      go_wp2
      go_ret
      exact ⟨rfl, rfl⟩

/-- What the document's Check leaves. -/
def RefCheckPost (w : World) (vars : Int) (xss : List (List Int)) (e : Ending) (w' : World) : Prop :=
  ∃ c p k, e = .returned (faultV c p k) ∧ CheckF vars xss c p k ∧ Below w.heap.size w w'

set_option maxHeartbeats 4000000 in
theorem refCheck_any (vars : Int) (a : Option Addr) (cap : Nat) (xss : List (List Int)) (w : World) (hv1 : -9223372036854775808 ≤ vars) (hv2 : vars ≤ 9223372036854775807) (hr : RowsAt w a cap xss)
    (hint : ∀ xs ∈ xss, ∀ l ∈ xs, -9223372036854775807 ≤ l ∧ l ≤ 9223372036854775807) (hn : xss.length ≤ 60) (hlen : ∀ xs ∈ xss, xs.length ≤ 1000000) :
    Calls Tryz.prog 41 #[.agg #[.int .i64 vars, .slice a xss.length cap]] w (RefCheckPost w vars xss) := by
  obtain ⟨hc1, hc2, hr⟩ := hr
  unfold maxLen at hc2
  have HBD := Lib.hid (sumTo_bd xss _ hlen)
  have HR := Lib.hid hr; clear hr
  have HI := Lib.hid hint; clear hint
  have HLEN := Lib.hid hlen; clear hlen
  have HBA := Lib.hid (fun W => bare_any 102 W)
  have HPL := Lib.hid (fun k W => placed_any 104 k W (by omega))
  have HNO := Lib.hid none_any
  have hbw : Below w.heap.size w ((w.alloc (.cells #[.int .i64 vars, .slice a xss.length cap] 27)).alloc (.cells #[.int .i64 0, .bool false, .int .i64 0] 35)) := ((Below.refl _ w).alloc (Nat.le_refl _) _).alloc (by simp) _
  generalize hN : xss.length = n at *
  have HN := Lib.hid hN; clear hN
  go_enter Tryz.func41, Tryz.ntmps41
  go_wp2_with fail
  go_loop [3, 4] (fun s i => ∃ k : Nat, k ≤ n ∧ i = .int .i64 k ∧ s = .int .i64 (sumTo xss k)) (fun _ i => n - (intOf i).toNat)
  case atStart => exact ⟨0, Nat.zero_le _, rfl, by simp [sumTo]⟩
  case round =>
    obtain ⟨k, hk, rfl, rfl⟩ := hrel
    by_cases hlt : k < n
    · obtain ⟨b, off, ha, hb, hc⟩ := HR.out.resolve_left (by omega)
      subst ha
      obtain ⟨v, g1, hv⟩ := hc k hlt
      clear hc
      have hkl : k < xss.length := by rw [HN.out]; exact hlt
      have HSU := Lib.hid (sumTo_succ xss k hkl)
      have hs1 := HBD.out k hk
      have hle : (xss.getD k []).length ≤ 1000000 := HLEN.out _ (by simp [List.getD, hkl])
      have hs2 : sumTo xss k ≤ 60 * 1000000 := Nat.le_trans hs1 (Nat.mul_le_mul_right _ (by omega))
      clear hkl hs1
      obtain ⟨av, cv, rfl, hrv⟩ := hv
      clear hrv
      generalize (xss.getD k []).length = m at *
      generalize hsk : sumTo xss k = sk at *
      go_wp2_with fail
      go_round
      case rel => exact ⟨k + 1, by omega, by go_num, by rw [HSU.out]; go_num⟩
      case measure => simp [intOf]; omega
    · have hkn : k = n := by omega
      clear hlt
      subst hkn
      have hs2 : sumTo xss k ≤ 60 * 1000000 := Nat.le_trans (HBD.out k (Nat.le_refl _)) (Nat.mul_le_mul_right _ (by omega))
      generalize hsk : sumTo xss k = sk at *
      have HSK := Lib.hid hsk; clear hsk
      have HTM := Lib.hid (show tooMuch vars xss ↔ (vars < 0 ∨ 4000 < vars ∨ 20000 < k ∨ 80000 < sk) by unfold tooMuch; rw [HN.out, HSK.out])
      clear HBD
      have hd3 : decide (20000 < (k : Int)) = false := by simp; omega
      by_cases hvn : vars < 0
      · have HT := Lib.hid (HTM.out.2 (.inl hvn))
        go_wp2_with (go_at_call 63; refine (HBA.out _).mono ?_; rintro e w2 ⟨rfl, hb2⟩; obtain ⟨hc, hf⟩ := bcell hb2; unfold faultV)
        exact bodyPost_ret (v := .agg #[.int .i64 102, .bool false, .int .i64 0]) (by simp [results, Tryz.results41, go_sem, hc]) rfl ⟨102, false, 0, rfl, .inl ⟨HT.out, rfl, rfl, rfl⟩, (((hbw.trans (hb2.mono hbw.size)).setCell (by simp) _).setCell (by simp) _).setCell (by simp) _⟩
      have hd1 : decide (vars < 0) = false := by simpa using hvn
      by_cases hvp : 4000 < vars
      · have HT := Lib.hid (HTM.out.2 (.inr (.inl hvp)))
        have hd2 : decide (4000 < vars) = true := by simp [hvp]
        go_wp2_with (go_at_call 63; refine (HBA.out _).mono ?_; rintro e w2 ⟨rfl, hb2⟩; obtain ⟨hc, hf⟩ := bcell hb2; unfold faultV)
        exact bodyPost_ret (v := .agg #[.int .i64 102, .bool false, .int .i64 0]) (by simp [results, Tryz.results41, go_sem, hc]) rfl ⟨102, false, 0, rfl, .inl ⟨HT.out, rfl, rfl, rfl⟩, (((hbw.trans (hb2.mono hbw.size)).setCell (by simp) _).setCell (by simp) _).setCell (by simp) _⟩
      have hd2 : decide (4000 < vars) = false := by simpa using hvp
      by_cases hsp : 80000 < sk
      · have HT := Lib.hid (HTM.out.2 (.inr (.inr (.inr hsp))))
        have hd4 : decide (80000 < (sk : Int)) = true := by simp; omega
        go_wp2_with (go_at_call 63; refine (HBA.out _).mono ?_; rintro e w2 ⟨rfl, hb2⟩; obtain ⟨hc, hf⟩ := bcell hb2; unfold faultV)
        exact bodyPost_ret (v := .agg #[.int .i64 102, .bool false, .int .i64 0]) (by simp [results, Tryz.results41, go_sem, hc]) rfl ⟨102, false, 0, rfl, .inl ⟨HT.out, rfl, rfl, rfl⟩, (((hbw.trans (hb2.mono hbw.size)).setCell (by simp) _).setCell (by simp) _).setCell (by simp) _⟩
      have hd4 : decide (80000 < (sk : Int)) = false := by simp; omega
      have HNT := Lib.hid (show ¬ tooMuch vars xss from fun h => by have := HTM.out.1 h; omega)
      go_wp2_with fail
      clear hd1 hd2 hd4 hd3 hvn hvp hsp hs2 HTM
      go_loopw [5, 6] (fun i _ wr => ∃ q t : Nat, q ≤ k ∧ i = .int .i64 q ∧ wr = ((w.alloc (.cells #[.int .i64 vars, .slice a k cap] 27)).alloc (.cells #[.int .i64 0, .bool false, .int .i64 0] 35)).drewN t ∧ Hid (∀ j, j < q → ∀ l ∈ xss.getD j [], isB vars l = true)) (fun i _ _ => k - (intOf i).toNat)
      case atStart => exact ⟨0, 0, Nat.zero_le _, rfl, rfl, fun j hj => absurd hj (Nat.not_lt_zero _)⟩
      case round =>
        obtain ⟨q, t, hq, rfl, rfl, HQ⟩ := hrel
        by_cases hlt : q < k
        · obtain ⟨b, off, ha, hb, hc⟩ := HR.out.resolve_left (by omega)
          subst ha
          obtain ⟨v, g1, hv⟩ := hc q hlt
          clear hc
          have hkl : q < xss.length := by rw [HN.out]; exact hlt
          have hmem : xss.getD q [] ∈ xss := by simp [List.getD, hkl]
          have hle : (xss.getD q []).length ≤ 1000000 := HLEN.out _ hmem
          have HIK := Lib.hid (HI.out _ hmem)
          clear hmem
          generalize hys : xss.getD q [] = ys at *
          have HYS := Lib.hid hys; clear hys
          obtain ⟨av, cv, rfl, hrv1, hrv2, hrv⟩ := hv
          have HRV := Lib.hid hrv; clear hrv
          unfold maxLen at hrv2
          generalize hm : ys.length = m at *
          have HM := Lib.hid hm; clear hm
          have HKL := Lib.hid hkl; clear hkl
          go_wp2_with fail
          go_loopw [6] (fun i wr => ∃ j t : Nat, j ≤ m ∧ i = .int .i64 j ∧ wr = ((w.alloc (.cells #[.int .i64 vars, .slice (some ⟨b, off, none⟩) k cap] 27)).alloc (.cells #[.int .i64 0, .bool false, .int .i64 0] 35)).drewN t ∧ Hid (∀ i, i < j → isB vars (ys.getD i 0) = true)) (fun i _ => m - (intOf i).toNat)
          case atStart => exact ⟨0, t, Nat.zero_le _, rfl, rfl, fun j hj => absurd hj (Nat.not_lt_zero _)⟩
          case round =>
            obtain ⟨j, t2, hj, rfl, rfl, HP⟩ := hrel
            by_cases hjl : j < m
            · obtain ⟨b2, off2, ha2, hb2, hc2'⟩ := HRV.out.resolve_left (by omega)
              subst ha2
              have g2 : w.cell? ⟨b2, off2 + j, none⟩ = some (.int .i64 (ys.getD j 0)) := hc2' j hjl
              clear hc2'
              have hjy : j < ys.length := by rw [HM.out]; exact hjl
              have hmem2 : ys.getD j 0 ∈ ys := by simp [List.getD, hjy]
              obtain ⟨hl1, hl2⟩ := HIK.out _ hmem2
              have HME := Lib.hid hmem2; clear hmem2 hjy
              generalize hlj : ys.getD j 0 = l at *
              have HLJ := Lib.hid hlj; clear hlj
              have HIS := Lib.hid (fun W => refIs_any l vars W hl1 hl2 hv1 hv2)
              obtain ⟨r, hr⟩ : ∃ r, isB vars l = r := ⟨_, rfl⟩
              rw [hr] at HIS
              have HRR := Lib.hid hr; clear hr
              cases r with
              | true =>
                go_wp2_with fail
                go_quiet ((go_at_call 61; refine (HIS.out _).mono ?_; rintro e w' ⟨rfl, rfl⟩; exact ⟨rfl, _, rfl⟩))
                go_wp2
                go_roundw
                case rel =>
                  refine ⟨j + 1, _, by omega, by go_num, rfl, fun i hi => ?_⟩
                  by_cases e : i = j
                  · rw [e, HLJ.out]; exact HRR.out
                  · exact HP.out i (by omega)
                case measure => simp [intOf]; omega
              | false =>
                have HFB := Lib.hid (show firstBad vars xss q from ⟨HKL.out, HQ.out, l, by rw [HYS.out]; exact HME.out, HRR.out⟩)
                go_wp2_with fail
                go_quiet ((go_at_call 61; refine (HIS.out _).mono ?_; rintro e w' ⟨rfl, rfl⟩; exact ⟨rfl, _, rfl⟩))
                go_wp2_with (go_at_call 21; refine (HPL.out _ _).mono ?_; rintro e w2 ⟨rfl, hb2⟩; obtain ⟨hc, hf⟩ := bcell hb2; unfold faultV)
                exact bodyPost_ret (v := .agg #[.int .i64 104, .bool true, .int .i64 q]) (by simp [results, Tryz.results41, go_sem, hc]) rfl ⟨104, true, q, rfl, .inr (.inl ⟨HNT.out, q, HFB.out, rfl, rfl, rfl⟩), (((hbw.trans ((below_draws ⟨_, rfl⟩).trans hb2 |>.mono hbw.size)).setCell (by simp) _).setCell (by simp) _).setCell (by simp) _⟩
            · have hjm : j = m := by omega
              have HALL := Lib.hid (show ∀ j', j' < q + 1 → ∀ l ∈ xss.getD j' [], isB vars l = true from by
                intro j' hj' l hl
                by_cases e : j' = q
                · rw [e, HYS.out] at hl
                  obtain ⟨i, hi, rfl⟩ := List.getElem_of_mem hl
                  have := HP.out i (by rw [HM.out] at hi; omega)
                  simpa [List.getD, hi] using this
                · exact HQ.out j' (by omega) l hl)
              clear hjl
              go_wp2_with fail
              go_roundw
              case rel => exact ⟨q + 1, _, by omega, by go_num, rfl, HALL.out⟩
              case measure => simp [intOf]; omega
        · have hkn : q = k := by omega
          have HALL := Lib.hid (show allIs vars xss from by
            intro xs hxs l hl
            obtain ⟨i, hi, rfl⟩ := List.getElem_of_mem hxs
            exact HQ.out i (by rw [HN.out] at hi; omega) l (by simpa [List.getD, hi] using hl))
          clear hlt
          go_wp2_with (go_at_call 42; refine (HNO.out _).mono ?_; rintro e w2 ⟨rfl, hb2⟩; obtain ⟨hc, hf⟩ := bcell hb2; unfold faultV)
          exact bodyPost_ret (v := .agg #[.int .i64 0, .bool false, .int .i64 0]) (by simp [results, Tryz.results41, go_sem, hc]) rfl ⟨0, false, 0, rfl, .inr (.inr ⟨HNT.out, HALL.out, rfl, rfl, rfl⟩), (((hbw.trans ((below_draws ⟨_, rfl⟩).trans hb2 |>.mono hbw.size)).setCell (by simp) _).setCell (by simp) _).setCell (by simp) _⟩
end Go.Proofs.YtfoohdknjacenaaGreatDoor

namespace Go.Proofs.YtfoohdknjacenaaGreatDoor
open Go.RowKit

def ChkRPost (w : World) (vars : Int) (bs : List Blk) (xss : List (List Int)) (e : Ending) (w' : World) : Prop :=
  ∃ c p k, e = .returned (faultV c p k) ∧ CheckFF vars bs xss c p k ∧ Below w.heap.size w w'
theorem getD_memB2 {bs : List Blk} {k : Nat} (h : k < bs.length) : bs.getD k blk0 ∈ bs := by simp [List.getD, h]
theorem okV_has2 (vars : Int) (met : List Int) (v : Int) : okV vars met v = (decide (1 ≤ v) && (decide (v ≤ vars) && !decide (v ∈ met))) := by
  unfold okV
  have h2 : met.contains v = decide (v ∈ met) := by simp
  rw [h2]

set_option maxHeartbeats 4000000 in
theorem refCheckF_any (vars : Int) (q : Option Addr) (d : Nat) (bs : List Blk) (a : Option Addr) (cap : Nat) (xss : List (List Int)) (w : World) (hv1 : -9223372036854775808 ≤ vars) (hv2 : vars ≤ 9223372036854775807) (hq : BRowsAt w q d bs) (hr : RowsAt w a cap xss)
    (hint : ∀ xs ∈ xss, ∀ l ∈ xs, -9223372036854775807 ≤ l ∧ l ≤ 9223372036854775807) (hn : xss.length ≤ 60) (hlen : ∀ xs ∈ xss, xs.length ≤ 1000000) (hnb : bs.length ≤ 8) (hnv : ∀ b ∈ bs, b.2.length ≤ 30) :
    Calls Tryz.prog 13 #[.agg #[.slice q bs.length d, .int .i64 vars, .slice a xss.length cap]] w (ChkRPost w vars bs xss) := by
  have HCK := Lib.hid (fun W (hW : Below w.heap.size w W) => refCheck_any vars a cap xss W hv1 hv2 (hr.keep hW) hint hn hlen)
  have HPL := Lib.hid (fun k W => placed_any 104 k W (by omega))
  have HNO := Lib.hid none_any
  obtain ⟨hq1, hq2, hq3⟩ := hq
  unfold maxLen at hq2
  have HQ3 := Lib.hid hq3; clear hq3
  clear hr hint hlen
  unfold RefCheckPost at HCK
  have HTOT : Hid ((∀ c p k, CheckF vars xss c p k → c = 0) → CheckF vars xss 0 false 0) := fun h => by
    rcases checkF_some vars xss with ⟨c, p, k, h1, h2⟩ | h1
    · exact absurd (h c p k h1) h2
    · exact h1
  have HNIL : Hid (∀ W, Below w.heap.size w W → CheckF vars xss 0 false 0 → blksBad vars 0 [] bs = none → ChkRPost w vars bs xss (.returned (.agg #[.int .i64 0, .bool false, .int .i64 0])) W) := fun W hW h0 h1 => ⟨0, false, 0, rfl, .inr ⟨h0, .inl ⟨h1, rfl, rfl, rfl⟩⟩, hW⟩
  have HBAD : Hid (∀ W (i : Nat), Below w.heap.size w W → CheckF vars xss 0 false 0 → blksBad vars 0 [] bs = some i → ChkRPost w vars bs xss (.returned (.agg #[.int .i64 104, .bool true, .int .i64 i])) W) := fun W i hW h0 h1 => ⟨104, true, i, rfl, .inr ⟨h0, .inr ⟨i, h1, rfl, rfl, rfl⟩⟩, hW⟩
  have HERR : Hid (∀ W c p k, Below w.heap.size w W → CheckF vars xss c p k → c ≠ 0 → ChkRPost w vars bs xss (.returned (.agg #[.int .i64 c, .bool p, .int .i64 k])) W) := fun W c p k hW h0 h1 => ⟨c, p, k, rfl, .inl ⟨h1, h0⟩, hW⟩
  have HBB := Lib.hid (fun i met (h : i < bs.length) => bb_in vars bs i met h)
  have HBE := Lib.hid (fun met => bb_end vars bs bs.length met (Nat.le_refl _))
  have HVL := Lib.hid (fun k (h : k < bs.length) => hnv _ (getD_memB2 (bs := bs) h))
  clear hnv
  generalize hP : ChkRPost w vars bs xss = P at *
  clear hP
  generalize hN : bs.length = nb at *
  have HN := Lib.hid hN; clear hN
  generalize xss.length = m at *
  unfold faultV at *
  have hw0b : Below w.heap.size w ((w.alloc (.cells #[.slice q nb d, .int .i64 vars, .slice a m cap] 29)).alloc (.cells #[.int .i64 0, .bool false, .int .i64 0] 35)) := ((Below.refl _ w).alloc (Nat.le_refl _) _).alloc (by simp) _
  have HW0 := Lib.hid hw0b; clear hw0b
  have HBOX : Hid (∀ W, Below ((w.alloc (.cells #[.slice q nb d, .int .i64 vars, .slice a m cap] 29)).alloc (.cells #[.int .i64 0, .bool false, .int .i64 0] 35)).heap.size ((w.alloc (.cells #[.slice q nb d, .int .i64 vars, .slice a m cap] 29)).alloc (.cells #[.int .i64 0, .bool false, .int .i64 0] 35)) W → (W.cell? ⟨w.heap.size, 0, none⟩ = some (.slice q nb d) ∧ W.cell? ⟨w.heap.size, 1, none⟩ = some (.int .i64 vars)) ∧ (W.cell? ⟨w.heap.size + 1, 0, none⟩ = some (.int .i64 0) ∧ W.cell? ⟨w.heap.size + 1, 1, none⟩ = some (.bool false) ∧ W.cell? ⟨w.heap.size + 1, 2, none⟩ = some (.int .i64 0)) ∧ ∀ k, W.frozen? ⟨w.heap.size + 1, k, none⟩ = false) := fun W h => by
    have h1 := cells3 w W _ _ _ _ (((Below.refl _ _).alloc (Nat.le_refl _) _).trans (h.mono (by simp)))
    have h2 := cells3 (w.alloc (.cells #[.slice q nb d, .int .i64 vars, .slice a m cap] 29)) W _ _ _ _ h
    rw [show (w.alloc (.cells #[.slice q nb d, .int .i64 vars, .slice a m cap] 29)).heap.size = w.heap.size + 1 by simp] at h2
    refine ⟨⟨h1.1, h1.2.1⟩, h2, fun k => ?_⟩
    obtain ⟨_, hf⟩ := bcell h
    rw [hf _ _ (by simp)]
    exact World.frozen?_alloc_at _ _ _ _ (by simp)
  by_cases hne : ∃ c p k, CheckF vars xss c p k ∧ c ≠ 0
  · have HNE := Lib.hid hne; clear hne
    go_enter Tryz.func13, Tryz.ntmps13
    go_wp2_with (go_at_call 41; refine (HCK.out _ HW0.out).mono ?_; rintro e w1 ⟨c, p, k, rfl, hcf, hb1⟩; have hc0 : c ≠ 0 := (by obtain ⟨c', p', k', h1, h2⟩ := HNE.out; rw [(checkF_same h1 hcf).1]; exact h2); have hcb : (c != 0) = true := (by simp [hc0]); obtain ⟨⟨g0, g1⟩, ⟨r1, r2, r3⟩, rf⟩ := HBOX.out _ (hb1.alloc hb1.size (.cells #[.int .i64 c, .bool p, .int .i64 k] 35)); have hbw1 := HW0.out.trans (hb1.mono HW0.out.size); have hs1 := hb1.size; simp at hs1)
    exact bodyPost_ret (v := .agg #[.int .i64 c, .bool p, .int .i64 k]) (by simp [results, Tryz.results13, go_sem, r1, r2, r3]) rfl (HERR.out _ _ _ _ ((((hbw1.alloc hbw1.size _).setCell (by simp) _).setCell (by simp) _).setCell (by simp) _) hcf hc0)
  · have HZ : Hid (∀ c p k, CheckF vars xss c p k → c = 0) := fun c p k h => by
      by_cases h0 : c = 0
      · exact h0
      · exact absurd ⟨c, p, k, h, h0⟩ hne
    clear hne
    have HCF := Lib.hid (HTOT.out HZ.out)
    go_enter Tryz.func13, Tryz.ntmps13
    go_wp2_with (go_at_call 41; refine (HCK.out _ HW0.out).mono ?_; rintro e w1 ⟨c, p, k, rfl, hcf, hb1⟩; obtain ⟨rfl, rfl, rfl⟩ := checkF_same HCF.out hcf; have hb1a := hb1.alloc hb1.size (.cells #[.int .i64 0, .bool false, .int .i64 0] 35))
    have HBA := Lib.hid hb1a
    generalize w1.alloc (.cells #[.int .i64 0, .bool false, .int .i64 0] 35) = W3 at *
    clear hb1a hb1 hcf
    go_loopw [4, 5, 6, 7] (fun sv i _ _ wr => ∃ (k : Nat) (met : List Int), k ≤ nb ∧ i = .int .i64 k ∧ wr.ownsRow W3.heap.size 3 1 sv met.length (met.map (Value.int .i64)) ∧ Below W3.heap.size W3 wr ∧ met.length ≤ 30 * k ∧ Hid (blksBad vars k met (bs.drop k) = blksBad vars 0 [] bs)) (fun _ i _ _ _ => nb - (intOf i).toNat)
    case atStart => exact ⟨0, [], Nat.zero_le _, rfl, World.ownsRow_nil _ _ _ _, Below.refl _ _, by simp, rfl⟩
    case round =>
      obtain ⟨k, met, hk, rfl, hown, hbr, hml, HQ⟩ := hrel
      have hbr0 := HBA.out.trans (hbr.mono HBA.out.size)
      obtain ⟨⟨g0, g1⟩, ⟨r1, r2, r3⟩, rf⟩ := HBOX.out _ hbr0
      have hbw := HW0.out.trans (hbr0.mono HW0.out.size)
      obtain ⟨a9, cs, rfl, _, hcs⟩ := own_shape hown
      unfold maxLen at hcs
      by_cases hlt : k < nb
      · obtain ⟨b, off, ha, hbl, hc⟩ := HQ3.out.resolve_left (by omega)
        subst ha
        obtain ⟨f0, v, f1, hvr⟩ := hc k hlt
        clear hc f0
        have HQ2 := Lib.hid ((HBB.out k met hlt).symm.trans HQ.out)
        have hvl := HVL.out k hlt
        clear HQ
        obtain ⟨av, cv, rfl, hv5, hv6, hrv⟩ := hvr
        unfold maxLen at hv6
        generalize (bs.getD k blk0).2 = ys at *
        have HRV := Lib.hid hrv; clear hrv
        generalize hml2 : ys.length = ml at *
        have HML := Lib.hid hml2; clear hml2
        have HF1 := Lib.hid (fun W (h : Below w.heap.size w W) => (h.cell (p := ⟨b, off + k * 2 + 1, none⟩) hbl).trans f1)
        have f1' := HF1.out _ hbw
        clear f1
        go_wp2_with fail
        go_loopw [4, 6, 7] (fun sv j _ wr2 => ∃ (t : Nat) (met2 : List Int), t ≤ ml ∧ j = .int .i64 t ∧ wr2.ownsRow W3.heap.size 3 1 sv met2.length (met2.map (Value.int .i64)) ∧ Below W3.heap.size W3 wr2 ∧ met2.length ≤ 30 * k + t ∧ Hid (blksIn vars k met2 (ys.drop t) (bs.drop (k + 1)) = blksBad vars 0 [] bs)) (fun _ j _ _ => ml - (intOf j).toNat)
        case atStart => exact ⟨0, met, Nat.zero_le _, rfl, hown, hbr, by omega, HQ2.out⟩
        case round =>
          clear hown hbr hbr0 g0 g1 r1 r2 r3 rf hbw f1'
          obtain ⟨t, met2, ht, rfl, hown2, hbr2, hml2, HQ4⟩ := hrel
          have hbr20 := HBA.out.trans (hbr2.mono HBA.out.size)
          obtain ⟨⟨g0, g1⟩, ⟨r1, r2, r3⟩, rf⟩ := HBOX.out _ hbr20
          have hbw2 := HW0.out.trans (hbr20.mono HW0.out.size)
          by_cases htl : t < ml
          · obtain ⟨b2, off2, ha2, hb2', hc2'⟩ := HRV.out.resolve_left (by omega)
            subst ha2
            have htys : t < ys.length := by rw [HML.out]; exact htl
            have f2 := (hbw2.cell (p := ⟨b2, off2 + t, none⟩) hb2').trans (hc2' t (by first | exact htl | exact htys))
            have f1' := HF1.out _ hbw2
            have HOKN := Lib.hid (fun h => bn_ok vars k t met2 ys (bs.drop (k + 1)) htys h)
            have HBDN := Lib.hid (fun h => bn_bad vars k t met2 ys (bs.drop (k + 1)) htys h)
            obtain ⟨a10, cs2, rfl, _, hcs2⟩ := own_shape hown2
            unfold maxLen at hcs2
            clear hc2' htys
            generalize ys.getD t 0 = l at *
            have HHAS := Lib.hid (fun W h => has_any (.slice a10 met2.length cs2) met2 l W h)
            by_cases hl1 : l < 1
            · have hl1b : decide (l < 1) = true := by simpa using hl1
              have HE := Lib.hid (HQ4.out.symm.trans (HBDN.out (by rw [okV_has2]; simp; omega)))
              clear HOKN HBDN HQ4 hl1
              go_wp2_with (go_at_call 21; refine (HPL.out _ _).mono ?_; rintro e9 w9 ⟨rfl, hb9⟩; have hr9 := hbr20.trans (hb9.mono hbr20.size); obtain ⟨_, ⟨r1, r2, r3⟩, rf⟩ := HBOX.out _ hr9)
              have hbw9 := HW0.out.trans (hr9.mono HW0.out.size)
              (try simp only [Exit.inBlock, Exit.then])
              exact bodyPost_ret (v := .agg #[.int .i64 104, .bool true, .int .i64 k]) (by simp [results, Tryz.results13, go_sem, r1, r2, r3]) rfl (HBAD.out _ k (((hbw9.setCell (by simp) _).setCell (by simp) _).setCell (by simp) _) HCF.out HE.out)
            have hl1b : decide (l < 1) = false := by simpa using hl1
            by_cases hlv : vars < l
            · have hlvb : decide (vars < l) = true := by simpa using hlv
              have HE := Lib.hid (HQ4.out.symm.trans (HBDN.out (by rw [okV_has2]; simp; omega)))
              clear HOKN HBDN HQ4 hl1 hlv
              go_wp2_with (go_at_call 21; refine (HPL.out _ _).mono ?_; rintro e9 w9 ⟨rfl, hb9⟩; have hr9 := hbr20.trans (hb9.mono hbr20.size); obtain ⟨_, ⟨r1, r2, r3⟩, rf⟩ := HBOX.out _ hr9)
              have hbw9 := HW0.out.trans (hr9.mono HW0.out.size)
              (try simp only [Exit.inBlock, Exit.then])
              exact bodyPost_ret (v := .agg #[.int .i64 104, .bool true, .int .i64 k]) (by simp [results, Tryz.results13, go_sem, r1, r2, r3]) rfl (HBAD.out _ k (((hbw9.setCell (by simp) _).setCell (by simp) _).setCell (by simp) _) HCF.out HE.out)
            have hlvb : decide (vars < l) = false := by simpa using hlv
            by_cases hin : l ∈ met2
            · rw [show decide (l ∈ met2) = true by simpa using hin] at HHAS
              have HE := Lib.hid (HQ4.out.symm.trans (HBDN.out (by rw [okV_has2]; simp [hin])))
              clear HOKN HBDN HQ4 hl1 hlv hin
              go_wp2_with (first
                | (go_at_call 31; refine (HHAS.out _ (own_row hown2)).mono ?_; rintro e4 w' ⟨rfl, rfl⟩)
                | (go_at_call 21; refine (HPL.out _ _).mono ?_; rintro e9 w9 ⟨rfl, hb9⟩; have hr9 := hbr20.trans (hb9.mono hbr20.size); obtain ⟨_, ⟨r1, r2, r3⟩, rf⟩ := HBOX.out _ hr9))
              have hbw9 := HW0.out.trans (hr9.mono HW0.out.size)
              (try simp only [Exit.inBlock, Exit.then])
              exact bodyPost_ret (v := .agg #[.int .i64 104, .bool true, .int .i64 k]) (by simp [results, Tryz.results13, go_sem, r1, r2, r3]) rfl (HBAD.out _ k (((hbw9.setCell (by simp) _).setCell (by simp) _).setCell (by simp) _) HCF.out HE.out)
            · rw [show decide (l ∈ met2) = false by simpa using hin] at HHAS
              have HQ5 := Lib.hid ((HOKN.out (by rw [okV_has2]; simp [hin]; omega)).symm.trans HQ4.out)
              clear HOKN HBDN HQ4 hl1 hlv hin
              go_wp2_with (first
                | (go_at_call 31; refine (HHAS.out _ (own_row hown2)).mono ?_; rintro e4 w' ⟨rfl, rfl⟩)
                | (at_builtin; refine wpList_app1 rfl _ _ rfl wr W3.heap.size _ _ _ _ hown2 hbr2.size (by omega) rfl rfl ?_; intro v5 w5 hown5 hap5))
              go_roundw
              case rel => exact ⟨t + 1, met2 ++ [l], by omega, by go_num, by rw [List.length_append]; exact hown5, hbr2.trans hap5.below, by rw [List.length_append, List.length_singleton]; omega, HQ5.out⟩
              case measure => go_light; simp [intOf]; omega
          · have htm : t = ml := by omega
            have HQ5 := Lib.hid ((bn_end vars k t met2 ys (bs.drop (k + 1)) (by rw [HML.out]; omega)).symm.trans HQ4.out)
            have f1' := HF1.out _ hbw2
            subst htm
            clear HQ4
            obtain ⟨a10, cs2, rfl, _, hcs2⟩ := own_shape hown2
            go_wp2_with fail
            go_roundw
            case rel => exact ⟨k + 1, met2, by omega, by go_num, hown2, hbr2, by omega, HQ5.out⟩
            case measure => simp [intOf]; omega
      · have hkn : k = nb := by omega
        subst hkn
        have HE := Lib.hid (HQ.out.symm.trans (HBE.out met))
        clear HQ
        go_wp2_with (go_at_call 42; refine (HNO.out _).mono ?_; rintro e9 w9 ⟨rfl, hb9⟩; have hr9 := hbr0.trans (hb9.mono hbr0.size); obtain ⟨_, ⟨r1, r2, r3⟩, rf⟩ := HBOX.out _ hr9)
        have hbw9 := HW0.out.trans (hr9.mono HW0.out.size)
        (try simp only [Exit.inBlock, Exit.then])
        exact bodyPost_ret (v := .agg #[.int .i64 0, .bool false, .int .i64 0]) (by simp [results, Tryz.results13, go_sem, r1, r2, r3]) rfl (HNIL.out _ (((hbw9.setCell (by simp) _).setCell (by simp) _).setCell (by simp) _) HCF.out HE.out)
end Go.Proofs.YtfoohdknjacenaaGreatDoor

namespace Go.Proofs.YtfoohdknjacenaaGreatDoor
open Go.RowKit

def lightB (bs : List Blk) (xss : List (List Int)) : Bool :=
  decide (bs.length ≤ 8) && (decide (xss.length ≤ 60) && ((xss.all fun xs => xs.all nearB) && (decide (sumTo xss xss.length ≤ 300) && bs.all fun b => decide (b.2.length ≤ 30) && b.2.all nearB)))
theorem all_take (bs : List Blk) (f : Blk → Bool) (k : Nat) (h : k < bs.length) : (bs.take (k + 1)).all f = ((bs.take k).all f && f (bs.getD k blk0)) := by
  rw [List.take_succ_eq_append_getElem h, List.all_append]; simp [List.getD, h]

set_option maxHeartbeats 4000000 in
theorem light_any (vars : Int) (q : Option Addr) (d : Nat) (bs : List Blk) (a : Option Addr) (c : Nat) (xss : List (List Int)) (w : World) (hq : BRowsAt w q d bs) (hr : RowsAt w a c xss) (hlen : ∀ xs ∈ xss, xs.length ≤ 140737488355328) :
    Calls Tryz.prog 11 #[.agg #[.slice q bs.length d, .int .i64 vars, .slice a xss.length c]] w fun e w' => e = .returned (.bool (lightB bs xss)) ∧ Below w.heap.size w w' := by
  have hbx : Below w.heap.size w (w.alloc (.cells #[.slice q bs.length d, .int .i64 vars, .slice a xss.length c] 29)) := (Below.refl _ w).alloc (Nat.le_refl _) _
  have HBX := Lib.hid hbx; clear hbx
  have HNA := Lib.hid (fun W (hW : Below w.heap.size w W) => nearAll_any a c xss W (hr.keep hW))
  have HCO := Lib.hid (fun W (hW : Below w.heap.size w W) (h : xss.length ≤ 60) => count_any a c xss W (hr.keep hW) h hlen)
  obtain ⟨hq1, hq2, hq3⟩ := hq
  unfold maxLen at hq2
  have HQ := Lib.hid hq3; clear hq3
  have HL := Lib.hid (show lightB bs xss = (decide (bs.length ≤ 8) && (decide (xss.length ≤ 60) && ((xss.all fun xs => xs.all nearB) && (decide (sumTo xss xss.length ≤ 300) && bs.all fun b => decide (b.2.length ≤ 30) && b.2.all nearB)))) from rfl)
  have HTK := Lib.hid (fun k (h : k < bs.length) => all_take bs (fun b => decide (b.2.length ≤ 30) && b.2.all nearB) k h)
  have HALL := Lib.hid (show bs.take bs.length = bs from List.take_length)
  have HBAD : Hid (∀ k, k < bs.length → (decide ((bs.getD k blk0).2.length ≤ 30) && (bs.getD k blk0).2.all nearB) = false → (bs.all fun b => decide (b.2.length ≤ 30) && b.2.all nearB) = false) := fun k hk h => by
    rw [List.all_eq_false]
    exact ⟨bs[k], List.getElem_mem hk, by rw [show bs[k] = bs.getD k blk0 by simp [List.getD, hk], h]; simp⟩
  generalize hB : bs.length = nb at *
  have HB := Lib.hid hB; clear hB
  by_cases h8 : nb ≤ 8
  · have h8b : decide ((8 : Int) < nb) = false := by simp; omega
    by_cases h60 : xss.length ≤ 60
    · have h60b : decide ((60 : Int) < xss.length) = false := by simp; omega
      have HCO' := Lib.hid (fun W hW => HCO.out W hW h60)
      clear HCO
      cases hna : (xss.all fun xs => xs.all nearB) with
      | false =>
        rw [hna] at HNA
        have HR := Lib.hid (show lightB bs xss = false by rw [HL.out, hna]; simp)
        clear HL hna HCO' HTK HBAD HALL
        rw [HR.out]
        generalize xss.length = n at *
        go_enter Tryz.func11, Tryz.ntmps11
        go_wp2_with (go_at_call 36; refine (HNA.out _ HBX.out).mono ?_; rintro e w' ⟨rfl, rfl⟩)
        (try go_ret)
        exact ⟨rfl, HBX.out⟩
      | true =>
        rw [hna] at HNA
        by_cases h300 : sumTo xss xss.length ≤ 300
        · have hs : decide ((300 : Int) < sumTo xss xss.length) = false := by simp; omega
          have HR := Lib.hid (show lightB bs xss = bs.all fun b => decide (b.2.length ≤ 30) && b.2.all nearB by rw [HL.out, hna]; simp [h8, h60, h300])
          rw [HR.out]
          clear HL hna HR h300
          generalize sumTo xss xss.length = sm at *
          generalize xss.length = n at *
          generalize hRR : (bs.all fun b => decide (b.2.length ≤ 30) && b.2.all nearB) = R at *
          have HRR := Lib.hid hRR; clear hRR
          go_enter Tryz.func11, Tryz.ntmps11
          go_wp2_with (first
            | (go_at_call 36; refine (HNA.out _ HBX.out).mono ?_; rintro e w' ⟨rfl, rfl⟩)
            | (go_at_call 37; refine (HCO'.out _ HBX.out).mono ?_; rintro e w' ⟨rfl, rfl⟩))
          go_loop [3] (fun i => ∃ k : Nat, k ≤ nb ∧ i = .int .i64 k ∧ Hid (((bs.take k).all fun b => decide (b.2.length ≤ 30) && b.2.all nearB) = true)) (fun i => nb - (intOf i).toNat)
          case atStart => exact ⟨0, Nat.zero_le _, rfl, by simp [Hid]⟩
          case round =>
            obtain ⟨k, hk, rfl, HQ2⟩ := hrel
            by_cases hlt : k < nb
            · obtain ⟨b, off, ha, hb, hc⟩ := HQ.out.resolve_left (by omega)
              subst ha
              obtain ⟨f0, v, f1, hv⟩ := hc k hlt
              have HBK := Lib.hid (HBAD.out k hlt)
              have HTT := Lib.hid (HTK.out k hlt)
              have HNE := Lib.hid (near_any v (bs.getD k blk0).2 _ (hv.keep HBX.out))
              clear hc f0
              obtain ⟨av, cv, rfl, _⟩ := hv
              generalize (bs.getD k blk0).2 = ys at *
              by_cases h30 : ys.length ≤ 30
              · have h30b : decide ((30 : Int) < ys.length) = false := by simp; omega
                cases hy : ys.all nearB with
                | false =>
                  have HE := Lib.hid (show R = false from HBK.out (by simp [hy]))
                  rw [hy] at HNE
                  clear HBK HTT hy h30
                  generalize ys.length = ml at *
                  go_wp2_with (go_at_call 38; refine HNE.out.mono ?_; rintro e w' ⟨rfl, rfl⟩)
                  (try go_ret)
                  exact ⟨by (rw [HE.out]; try rfl), HBX.out⟩
                | true =>
                  have HT2 := Lib.hid (show ((bs.take (k + 1)).all fun b => decide (b.2.length ≤ 30) && b.2.all nearB) = true by rw [HTT.out, HQ2.out]; simp [hy, h30])
                  rw [hy] at HNE
                  clear HBK HTT hy h30
                  generalize ys.length = ml at *
                  go_wp2_with (go_at_call 38; refine HNE.out.mono ?_; rintro e w' ⟨rfl, rfl⟩)
                  go_round
                  case rel => exact ⟨k + 1, by omega, by go_num, HT2.out⟩
                  case measure => simp [intOf]; omega
              · have h30b : decide ((30 : Int) < ys.length) = true := by simp; omega
                have HE := Lib.hid (show R = false from HBK.out (by simp [h30]))
                clear HBK HTT h30 HNE
                generalize ys.length = ml at *
                go_wp2_with fail
                (try go_ret)
                exact ⟨by (rw [HE.out]; try rfl), HBX.out⟩
            · have hkn : k = nb := by omega
              have HE := Lib.hid (show R = true by rw [← HRR.out]; have := HQ2.out; rwa [hkn, HALL.out] at this)
              clear HQ2
              go_wp2_with fail
              (try go_ret)
              exact ⟨by (rw [HE.out]; try rfl), HBX.out⟩
        · have hs : decide ((300 : Int) < sumTo xss xss.length) = true := by simp; omega
          have HR := Lib.hid (show lightB bs xss = false by rw [HL.out]; simp [h300])
          rw [HR.out]
          clear HL hna HR h300 HTK HBAD HALL
          generalize sumTo xss xss.length = sm at *
          generalize xss.length = n at *
          go_enter Tryz.func11, Tryz.ntmps11
          go_wp2_with (first
            | (go_at_call 36; refine (HNA.out _ HBX.out).mono ?_; rintro e w' ⟨rfl, rfl⟩)
            | (go_at_call 37; refine (HCO'.out _ HBX.out).mono ?_; rintro e w' ⟨rfl, rfl⟩))
          (try go_ret)
          exact ⟨rfl, HBX.out⟩
    · have h60b : decide ((60 : Int) < xss.length) = true := by simp; omega
      have HR := Lib.hid (show lightB bs xss = false by rw [HL.out]; simp [h60])
      rw [HR.out]
      clear HL HR HTK HBAD HALL HNA HCO h60
      generalize xss.length = n at *
      go_enter Tryz.func11, Tryz.ntmps11
      go_wp2_with fail
      (try go_ret)
      exact ⟨rfl, HBX.out⟩
  · have h8b : decide ((8 : Int) < nb) = true := by simp; omega
    have HR := Lib.hid (show lightB bs xss = false by rw [HL.out]; simp [h8])
    rw [HR.out]
    clear HL HR HTK HBAD HALL HNA HCO h8
    generalize xss.length = n at *
    go_enter Tryz.func11, Tryz.ntmps11
    go_wp2_with fail
    (try go_ret)
    exact ⟨rfl, HBX.out⟩
end Go.Proofs.YtfoohdknjacenaaGreatDoor

namespace Go.Proofs.YtfoohdknjacenaaGreatDoor

theorem sumTo_take (xss : List (List Int)) : ∀ k, k ≤ xss.length → sumTo xss k = ((xss.take k).map List.length).sum
  | 0, _ => by simp [sumTo]
  | k + 1, h => by
    rw [sumTo_succ _ _ (by omega), sumTo_take xss k (by omega), List.take_succ_eq_append_getElem (by omega), List.map_append, List.sum_append]
    simp [List.getD, show k < xss.length by omega]
theorem itoa_len4 (i : Int) (h1 : -10000 < i) (h2 : i < 10000) : (itoaL i).length ≤ 5 := by
  by_cases h : i < 0
  · rw [itoaL_neg h, List.length_cons]
    have := dec_len 3 i.natAbs (by omega)
    omega
  · rw [itoaL_pos h]
    have := dec_len 3 i.toNat (by omega)
    omega
theorem cls_len4 (xss : List (List Int)) (h : ∀ c ∈ xss, ∀ l ∈ c, -10000 < l ∧ l < 10000) : (xss.flatMap clsT).length ≤ 6 * (xss.map List.length).sum + 2 * xss.length := by
  have hl : ∀ c : List Int, (∀ l ∈ c, -10000 < l ∧ l < 10000) → (c.flatMap litT).length ≤ 6 * c.length := fun c => by
    induction c with
    | nil => intro _; simp
    | cons l c ih =>
      intro hc
      have h1 := ih (fun y hy => hc y (by simp [hy]))
      have h2 := itoa_len4 l (hc l (by simp)).1 (hc l (by simp)).2
      rw [List.flatMap_cons, List.length_append]
      unfold litT at h1 ⊢
      simp only [List.length_append, List.length_cons, List.length_nil] at h1 ⊢
      omega
  induction xss with
  | nil => simp
  | cons c xss ih =>
    have h1 := ih (fun d hd => h d (by simp [hd]))
    have h2 := hl c (h c (by simp))
    rw [List.flatMap_cons, List.length_append]
    have h3 : (clsT c).length = (c.flatMap litT).length + 2 := by unfold clsT; simp
    simp only [List.map_cons, List.sum_cons, List.length_cons]
    omega
theorem blks_len4 (bs : List Blk) (h : ∀ b ∈ bs, b.2.length ≤ 30 ∧ ∀ l ∈ b.2, -10000 < l ∧ l < 10000) : (bs.flatMap (blkT [32])).length ≤ 184 * bs.length := by
  have hl : ∀ c : List Int, (∀ l ∈ c, -10000 < l ∧ l < 10000) → (varsT [32] c).length ≤ 6 * c.length := fun c => by
    induction c with
    | nil => intro _; simp [varsT]
    | cons l c ih =>
      intro hc
      have h1 := ih (fun y hy => hc y (by simp [hy]))
      have h2 := itoa_len4 l (hc l (by simp)).1 (hc l (by simp)).2
      unfold varsT at h1 ⊢
      rw [List.flatMap_cons, List.length_append]
      simp only [List.length_append, List.length_cons, List.length_nil] at h1 ⊢
      omega
  induction bs with
  | nil => simp
  | cons b bs ih =>
    have h1 := ih (fun d hd => h d (by simp [hd]))
    have h2 := hl b.2 (h b (by simp)).2
    have h4 := (h b (by simp)).1
    rw [List.flatMap_cons, List.length_append]
    have h3 : (blkT [32] b).length = (varsT [32] b.2).length + 4 := by unfold blkT letL; split <;> simp <;> omega
    simp only [List.length_cons]
    omega
/-- What a light formula without a fault is. -/
structure FGood (vars : Int) (bs : List Blk) (xss : List (List Int)) : Prop where
  v0 : 0 ≤ vars
  v1 : vars ≤ 4000
  nb : bs.length ≤ 8
  nc : xss.length ≤ 60
  lb : ∀ b ∈ bs, ∀ l ∈ b.2, -10000 < l ∧ l < 10000
  lc : ∀ xs ∈ xss, ∀ l ∈ xs, -10000 < l ∧ l < 10000
  kc : ∀ xs ∈ xss, xs.length ≤ 300
  kb : ∀ b ∈ bs, b.2.length ≤ 30
  txt : (fTextL vars bs xss).length ≤ 4000
  rd : ∃ ws, readFL (fTextL vars bs xss) = (vars, bs, xss, ws, .ok)
theorem fgood {vars : Int} {bs : List Blk} {xss : List (List Int)} (hl : lightB bs xss = true) {p : Bool} {k : Int} (h : CheckFF vars bs xss 0 p k) : FGood vars bs xss := by
  unfold lightB at hl
  simp only [Bool.and_eq_true, decide_eq_true_eq] at hl
  obtain ⟨h1, h2, _, h4, h5⟩ := hl
  rcases h with ⟨h0, _⟩ | ⟨hC, hB⟩
  · exact absurd rfl h0
  have hb : blksBad vars 0 [] bs = none := by
    rcases hB with ⟨e, _⟩ | ⟨_, _, e, _⟩
    · exact e
    · exact absurd e (by omega)
  obtain ⟨hT, hA⟩ : ¬ tooMuch vars xss ∧ allIs vars xss := by
    rcases hC with ⟨_, e, _⟩ | ⟨_, _, _, e, _⟩ | ⟨e1, e2, _⟩
    · exact absurd e (by omega)
    · exact absurd e (by omega)
    · exact ⟨e1, e2⟩
  unfold tooMuch at hT
  obtain ⟨m, hm⟩ := bad_none vars bs 0 [] hb
  have hmet := (blksOk_met vars bs [] m hm).2
  have hlit : ∀ c ∈ xss, ∀ l ∈ c, (l ≠ 0 ∧ isF l vars = true) ∧ -10000 < l ∧ l < 10000 := fun c hc l hlc => by
    have h6 := hA c hc l hlc
    unfold isB absI at h6
    unfold isF
    simp only [Bool.and_eq_true, decide_eq_true_eq] at h6 ⊢
    split at h6 <;> omega
  have hk := List.all_eq_true.1 h5
  have hkb : ∀ b ∈ bs, b.2.length ≤ 30 := fun b hb' => by
    have := hk b hb'
    simp only [Bool.and_eq_true, decide_eq_true_eq] at this
    exact this.1
  have hlb : ∀ b ∈ bs, ∀ l ∈ b.2, -10000 < l ∧ l < 10000 := fun b hb' l hlc => by have := hmet b hb' l hlc; omega
  have hs := sumTo_take xss xss.length (Nat.le_refl _)
  rw [List.take_length] at hs
  refine ⟨by omega, by omega, h1, h2, hlb, fun c hc l hlc => (hlit c hc l hlc).2, fun c hc => ?_, hkb, ?_, fText_read vars bs xss m (by omega) (by omega) (by omega) hm (fun c hc l hlc => (hlit c hc l hlc).1)⟩
  · have : ∀ (L : List (List Int)) (c : List Int), c ∈ L → c.length ≤ (L.map List.length).sum := fun L => by
      induction L with
      | nil => intro c hc; cases hc
      | cons d L ih =>
        intro c hc
        simp only [List.map_cons, List.sum_cons]
        rcases List.mem_cons.1 hc with e | e
        · subst e; omega
        · have := ih c e; omega
    have := this xss c hc
    omega
  · have g1 := cls_len4 xss (fun c hc l hlc => (hlit c hc l hlc).2)
    have g2 := blks_len4 bs (fun b hb' => ⟨hkb b hb', hlb b hb'⟩)
    have g3 := itoa_len4 vars (by omega) (by omega)
    have g4 := itoa_len4 (xss.length : Int) (by omega) (by omega)
    unfold fTextL headT
    simp only [List.length_append, List.length_cons, List.length_nil]
    omega
end Go.Proofs.YtfoohdknjacenaaGreatDoor

namespace Go.Proofs.YtfoohdknjacenaaGreatDoor
open Go.RowKit

theorem near64 {xss : List (List Int)} (h : (xss.all fun xs => xs.all nearB) = true) (hi : ∀ xs ∈ xss, ∀ y ∈ xs, -9223372036854775808 ≤ y ∧ y ≤ 9223372036854775807) : ∀ xs ∈ xss, ∀ l ∈ xs, -9223372036854775807 ≤ l ∧ l ≤ 9223372036854775807 := fun xs hx l hl =>
  ⟨by have := (nearB_iff l).1 (List.all_eq_true.1 (List.all_eq_true.1 h xs hx) l hl); omega, (hi xs hx l hl).2⟩
theorem light_parts {bs : List Blk} {xss : List (List Int)} (h : lightB bs xss = true) : bs.length ≤ 8 ∧ xss.length ≤ 60 ∧ (xss.all fun xs => xs.all nearB) = true ∧ (∀ xs ∈ xss, xs.length ≤ 300) ∧ ∀ b ∈ bs, b.2.length ≤ 30 := by
  unfold lightB at h
  simp only [Bool.and_eq_true, decide_eq_true_eq] at h
  obtain ⟨h1, h2, h3, h4, h5⟩ := h
  refine ⟨h1, h2, h3, fun xs hx => ?_, fun b hb => ?_⟩
  · have hs := sumTo_take xss xss.length (Nat.le_refl _)
    rw [List.take_length] at hs
    obtain ⟨i, hi, rfl⟩ := List.getElem_of_mem hx
    have h1 := sumTo_succ xss i hi
    have h2 := sumTo_mono xss (i + 1) xss.length (by omega)
    rw [show xss.getD i [] = xss[i] by simp [List.getD, hi]] at h1
    omega
  · have := List.all_eq_true.1 h5 b hb
    simp only [Bool.and_eq_true, decide_eq_true_eq] at this
    exact this.1

set_option maxHeartbeats 2000000 in
theorem checks_dark (A : Nat → Addr) (vars : Int) (q : Option Addr) (d : Nat) (bs : List Blk) (a : Option Addr) (cap : Nat) (xss : List (List Int)) (w : World) (hS : Sents8 w A) (ht : Tabs w) (hq : BRowsAt w q d bs) (hr : RowsAt w a cap xss)
    (hlen : ∀ xs ∈ xss, xs.length ≤ 140737488355328) (hd : lightB bs xss = false) :
    Calls Tryz.prog 4 #[.agg #[.slice q bs.length d, .int .i64 vars, .slice a xss.length cap]] w fun e w' => e = .returned (.bool true) ∧ Below w.heap.size w w' := by
  have HF := Lib.hid (fun W (hW : Below w.heap.size w W) => first5_any A W (hS.keep hW) (ht.keep hW))
  have HL := Lib.hid (fun W (hW : Below w.heap.size w W) => light_any vars q d bs a cap xss W (hq.keep hW) (hr.keep hW) hlen)
  have HB := Lib.hid (fun o => show Below w.heap.size w (w.alloc o) from (Below.refl _ w).alloc (Nat.le_refl _) _)
  rw [hd] at HL
  clear hS ht hq hr hlen hd
  generalize bs.length = nb at *
  generalize xss.length = n at *
  go_enter Tryz.func4, Tryz.ntmps4
  go_wp2_with (first
    | (go_at_call 6; refine (HF.out _ (HB.out _)).mono ?_; rintro e w1 ⟨rfl, hb1⟩; obtain ⟨g0, g1, g2⟩ := cells3 w w1 _ _ _ _ hb1; have HW1 := (HB.out _).trans (hb1.mono (by simp)))
    | (go_at_call 11; refine (HL.out _ HW1).mono ?_; rintro e w2 ⟨rfl, hb2⟩))
  (try go_ret)
  exact ⟨rfl, HW1.trans (hb2.mono HW1.size)⟩

set_option maxHeartbeats 4000000 in
theorem checks_bad (A : Nat → Addr) (vars : Int) (q : Option Addr) (d : Nat) (bs : List Blk) (a : Option Addr) (cap : Nat) (xss : List (List Int)) (w : World) (hS : Sents8 w A) (ht : Tabs w) (hq : BRowsAt w q d bs) (hr : RowsAt w a cap xss) (hv1 : -9223372036854775808 ≤ vars) (hv2 : vars ≤ 9223372036854775807)
    (hint : ∀ xs ∈ xss, ∀ y ∈ xs, -9223372036854775808 ≤ y ∧ y ≤ 9223372036854775807) (hd : lightB bs xss = true) (hz : ¬ ∃ p k, CheckFF vars bs xss 0 p k) :
    Calls Tryz.prog 4 #[.agg #[.slice q bs.length d, .int .i64 vars, .slice a xss.length cap]] w fun e w' => e = .returned (.bool true) ∧ Below w.heap.size w w' := by
  obtain ⟨hp1, hp2, hp3, hp4, hp5⟩ := light_parts hd
  have hi := near64 hp3 hint
  have HF := Lib.hid (fun W (hW : Below w.heap.size w W) => first5_any A W (hS.keep hW) (ht.keep hW))
  have HL := Lib.hid (fun W (hW : Below w.heap.size w W) => light_any vars q d bs a cap xss W (hq.keep hW) (hr.keep hW) (fun xs hx => by have := hp4 xs hx; omega))
  have HC := Lib.hid (fun W (hW : Below w.heap.size w W) => checkFm_any A vars q d bs a cap xss W (hS.keep hW) hv1 hv2 (hq.keep hW) (hr.keep hW) hi (fun xs hx => by have := hp4 xs hx; omega))
  have HR := Lib.hid (fun W (hW : Below w.heap.size w W) => refCheckF_any vars q d bs a cap xss W hv1 hv2 (hq.keep hW) (hr.keep hW) hi hp2 (fun xs hx => by have := hp4 xs hx; omega) hp1 hp5)
  have HB := Lib.hid (fun o => show Below w.heap.size w (w.alloc o) from (Below.refl _ w).alloc (Nat.le_refl _) _)
  have HY := Lib.hid (fun ev c p k W (h : ErrAs W ev c p k) => see_yes ev c p k W h)
  have HZ : Hid (∀ c p k, CheckFF vars bs xss c p k → (c != 0) = true) := fun c p k h => by
    by_cases h0 : c = 0
    · subst h0; exact absurd ⟨p, k, h⟩ hz
    · simp [h0]
  unfold ChkPost at HC
  unfold ChkRPost at HR
  unfold faultV at HR HY
  rw [hd] at HL
  clear hS ht hq hr hd hz hint hi hp1 hp2 hp3 hp4 hp5
  generalize hP : CheckFF vars bs xss = P at *
  have HS : Hid (∀ c p k c' p' k', P c p k → P c' p' k' → c' = c ∧ p' = p ∧ k' = k) := fun c p k c' p' k' h h' => by subst hP; exact checkFF_same h h'
  clear hP
  generalize bs.length = nb at *
  generalize xss.length = n at *
  go_enter Tryz.func4, Tryz.ntmps4
  go_wp2_with (first
    | (go_at_call 6; refine (HF.out _ (HB.out _)).mono ?_; rintro e w1 ⟨rfl, hb1⟩; obtain ⟨g0, g1, g2⟩ := cells3 w w1 _ _ _ _ hb1; have HW1 := (HB.out _).trans (hb1.mono (by simp)))
    | (go_at_call 11; refine (HL.out _ HW1).mono ?_; rintro e w2 ⟨rfl, hb2⟩; have hc2 := hb1.trans (hb2.mono hb1.size); obtain ⟨g0, g1, g2⟩ := cells3 w w2 _ _ _ _ hc2; have HW2 := (HB.out _).trans (hc2.mono (by simp)))
    | (go_at_call 12; refine (HC.out _ HW2).mono ?_; rintro e w3 ⟨ev, c, p, k, rfl, hcf, he, _, hb3⟩; have hc3 := hc2.trans (hb3.mono hc2.size); obtain ⟨g0, g1, g2⟩ := cells3 w w3 _ _ _ _ hc3; have HW3 := (HB.out _).trans (hc3.mono (by simp)))
    | (go_at_call 13; refine (HR.out _ HW3).mono ?_; rintro e w4 ⟨c', p', k', rfl, hcf', hb4⟩; obtain ⟨rfl, rfl, rfl⟩ := HS.out _ _ _ _ _ _ hcf hcf'; have hcb := HZ.out _ _ _ hcf; have HW4 := HW3.trans (hb4.mono HW3.size); have hbx := hb4.alloc hb4.size (.cells #[.int .i64 c', .bool p', .int .i64 k'] 35))
    | (go_at_call 10; refine (HY.out _ _ _ _ _ (he.keep hbx)).mono ?_; rintro e w5 ⟨rfl, hb5⟩; obtain ⟨r0, r1, r2⟩ := cells3 w4 w5 _ _ _ _ hb5; have HW5 := (HW4.alloc HW4.size _).trans (hb5.mono (by have := HW4.size; simp; omega))))
  (try go_ret)
  exact ⟨rfl, HW5⟩

set_option maxHeartbeats 8000000 in
theorem checks_good (A : Nat → Addr) (vn : Nat) (q : Option Addr) (d : Nat) (bs : List Blk) (a : Option Addr) (cap : Nat) (xss : List (List Int)) (w : World) (hS : Sents8 w A) (ht : Tabs w) (hq : BRowsAt w q d bs) (hr : RowsAt w a cap xss)
    (hint : ∀ xs ∈ xss, ∀ y ∈ xs, -9223372036854775808 ≤ y ∧ y ≤ 9223372036854775807) (hd : lightB bs xss = true) (p0 : Bool) (k0 : Int) (hz : CheckFF (vn : Int) bs xss 0 p0 k0) :
    Calls Tryz.prog 4 #[.agg #[.slice q bs.length d, .int .i64 (vn : Int), .slice a xss.length cap]] w fun e w' => e = .returned (.bool true) ∧ Below w.heap.size w w' := by
  obtain ⟨hp1, hp2, hp3, hp4, hp5⟩ := light_parts hd
  have hi := near64 hp3 hint
  obtain ⟨f0, f1, f2, f3, f4, f5, f6, f7, f8, ⟨ws, f9⟩⟩ := fgood hd hz
  have hib : ∀ b ∈ bs, ∀ l ∈ b.2, -1000000000 < l ∧ l < 1000000000 := fun b hb l hl => by have := f4 b hb l hl; omega
  have hic : ∀ xs ∈ xss, ∀ l ∈ xs, -1000000000 < l ∧ l < 1000000000 := fun b hb l hl => by have := f5 b hb l hl; omega
  have HF := Lib.hid (fun W (hW : Below w.heap.size w W) => first5_any A W (hS.keep hW) (ht.keep hW))
  have HL := Lib.hid (fun W (hW : Below w.heap.size w W) => light_any (vn : Int) q d bs a cap xss W (hq.keep hW) (hr.keep hW) (fun xs hx => by have := hp4 xs hx; omega))
  have HC := Lib.hid (fun W (hW : Below w.heap.size w W) => checkFm_any A (vn : Int) q d bs a cap xss W (hS.keep hW) (by omega) (by omega) (hq.keep hW) (hr.keep hW) hi (fun xs hx => by have := hp4 xs hx; omega))
  have HR := Lib.hid (fun W (hW : Below w.heap.size w W) => refCheckF_any (vn : Int) q d bs a cap xss W (by omega) (by omega) (hq.keep hW) (hr.keep hW) hi hp2 (fun xs hx => by have := hp4 xs hx; omega) hp1 hp5)
  have HBY := Lib.hid (fun W (hW : Below w.heap.size w W) => bytesF_any vn q d bs a cap xss W (by omega) (hq.keep hW) (hr.keep hW) hib hic (by omega) (by omega) (fun xs hx => by have := hp4 xs hx; omega) (ht.keep hW))
  have HBR := Lib.hid (fun W (hW : Below w.heap.size w W) => refBytesF_any vn q d bs a cap xss W (by omega) (hq.keep hW) (hr.keep hW) hib hic (by omega) (by omega) (ht.keep hW))
  have HRD := Lib.hid (fun W (hW : Below w.heap.size w W) v (hv : RowG (Value.int .u8) 0 W v (fTextL vn bs xss)) => show Calls Tryz.prog 7 #[v] W fun e w' => (∃ bv cv, e = .returned (.tuple #[.agg #[bv, .int .i64 (vn : Int), cv], .nilIface]) ∧ BRow w' W.heap.size bv bs ∧ CRow w' W.heap.size cv xss) ∧ Below W.heap.size W w' from by
    refine (readF_any A v (fTextL vn bs xss) W (hS.keep hW) hv (fTextL_bts _ _ _) f8).mono ?_
    rw [f9]
    rintro e w' ⟨⟨bv, cv, ov, rfl, hB, hC, hO⟩, hb⟩
    obtain rfl : ov = .nilIface := hO
    exact ⟨⟨bv, cv, rfl, hB, hC⟩, hb⟩)
  have HB := Lib.hid (fun o => show Below w.heap.size w (w.alloc o) from (Below.refl _ w).alloc (Nat.le_refl _) _)
  have HY := Lib.hid (fun ev c p k W (h : ErrAs W ev c p k) => see_yes ev c p k W h)
  have HQK := Lib.hid (fun W (hW : Below w.heap.size w W) => hq.keep hW)
  have HRK := Lib.hid (fun W (hW : Below w.heap.size w W) => hr.keep hW)
  have HSB := Lib.hid (fun v u W (hv : RowG (Value.int .u8) 0 W v (fTextL vn bs xss)) (hu : RowG (Value.int .u8) 0 W u (fTextL vn bs xss)) => show Calls Tryz.prog 15 #[v, u] W fun e w' => e = .returned (.bool true) ∧ Below W.heap.size W w' from by
    refine (sameBytes_any v u _ _ W hv hu).mono ?_
    rintro e w' ⟨rfl, hb⟩
    exact ⟨by simp, below_draws hb⟩)
  unfold ChkPost at HC
  unfold ChkRPost at HR
  unfold faultV at HR HY
  rw [hd] at HL
  have HZ := Lib.hid hz
  clear hS ht hq hr hd hz hint hi hp1 hp2 hp3 hp4 hp5 f0 f1 f2 f3 f4 f5 f6 f7 f8 f9 hib hic
  generalize hP : CheckFF (vn : Int) bs xss = P at *
  have HS : Hid (∀ c p k c' p' k', P c p k → P c' p' k' → c' = c ∧ p' = p ∧ k' = k) := fun c p k c' p' k' h h' => by subst hP; exact checkFF_same h h'
  clear hP
  generalize fTextL vn bs xss = T at *
  generalize hnb : bs.length = nb at *
  generalize hnc : xss.length = n at *
  have HNB := Lib.hid hnb; clear hnb
  have HNC := Lib.hid hnc; clear hnc
  go_enter Tryz.func4, Tryz.ntmps4
  go_wp2_with (first
    | (go_at_call 6; refine (HF.out _ (HB.out _)).mono ?_; rintro e w1 ⟨rfl, hb1⟩; obtain ⟨g0, g1, g2⟩ := cells3 w w1 _ _ _ _ hb1; have HW1 := (HB.out _).trans (hb1.mono (by simp)))
    | (go_at_call 11; refine (HL.out _ HW1).mono ?_; rintro e w2 ⟨rfl, hb2⟩; have hc2 := hb1.trans (hb2.mono hb1.size); obtain ⟨g0, g1, g2⟩ := cells3 w w2 _ _ _ _ hc2; have HW2 := (HB.out _).trans (hc2.mono (by simp)))
    | (go_at_call 12; refine (HC.out _ HW2).mono ?_; rintro e w3 ⟨ev, c, p, k, rfl, hcf, he, hnil, hb3⟩; obtain ⟨rfl, rfl, rfl⟩ := HS.out _ _ _ _ _ _ HZ.out hcf; obtain rfl := hnil rfl; have hc3 := hc2.trans (hb3.mono hc2.size); obtain ⟨g0, g1, g2⟩ := cells3 w w3 _ _ _ _ hc3; have HW3 := (HB.out _).trans (hc3.mono (by simp)))
    | (go_at_call 13; refine (HR.out _ HW3).mono ?_; rintro e w4 ⟨c', p', k', rfl, hcf', hb4⟩; obtain ⟨rfl, rfl, rfl⟩ := HS.out _ _ _ _ _ _ hcf hcf'; have HW4 := HW3.trans (hb4.mono HW3.size); have hbx := hb4.alloc hb4.size (.cells #[.int .i64 0, .bool p', .int .i64 k'] 35))
    | (go_at_call 10; refine (HY.out _ _ _ _ _ (he.keep hbx)).mono ?_; rintro e w5 ⟨rfl, hb5⟩; obtain ⟨r0, r1, r2⟩ := cells3 w4 w5 _ _ _ _ hb5; have hc5 := hc3.trans ((hbx.trans (hb5.mono hbx.size)).mono hc3.size); obtain ⟨g0, g1, g2⟩ := cells3 w w5 _ _ _ _ hc5; have HW5 := (HB.out _).trans (hc5.mono (by simp)))
    | (go_at_call 14; refine (HBY.out _ HW5).mono ?_; rintro e w6 ⟨⟨tv, rfl, ho6⟩, hb6⟩; have HW6 := HW5.trans (hb6.mono HW5.size); have HT6 := Lib.hid (own_rowG (d := 0) ho6); obtain ⟨a6, c6, rfl, _, _⟩ := own_shape ho6; clear ho6; have hc6 := hc5.trans (hb6.mono hc5.size))
    | (go_at_call 7; refine (HRD.out _ HW6 _ HT6.out).mono ?_; rintro e w7 ⟨⟨bv, cv, rfl, hB7, hC7⟩, hb7⟩; obtain ⟨a8, c8, rfl, hRB⟩ := hB7.rows; obtain ⟨a9, c9, rfl, hRC⟩ := hC7.rows; rw [HNB.out]; rw [HNC.out]; have HX := Lib.hid (hb7.alloc hb7.size (.cells #[.slice a8 nb c8, .int .i64 (vn : Int), .slice a9 n c9] 29)); have HRB := Lib.hid hRB; have HRC := Lib.hid hRC; clear hRB hRC hB7 hC7; have HX7 := Lib.hid ((Below.refl w7.heap.size w7).alloc (Nat.le_refl _) (.cells #[.slice a8 nb c8, .int .i64 (vn : Int), .slice a9 n c9] 29)); have HWX := HW6.trans (HX.out.mono HW6.size); have hcx := hc6.trans (HX.out.mono hc6.size); obtain ⟨g0, g1, g2⟩ := cells3 w _ _ _ _ _ hcx)
    | (go_at_call 16; refine (HBR.out _ HWX).mono ?_; rintro e w8 ⟨⟨tv8, rfl, ho8⟩, hb8⟩; have HW8 := HWX.trans (hb8.mono HWX.size); have HT8 := Lib.hid (own_rowG (d := 0) ho8); obtain ⟨a5, c5, rfl, _, _⟩ := own_shape ho8; clear ho8)
    | (go_at_call 15; refine (HSB.out _ _ _ (HT6.out.keep (HX.out.trans (hb8.mono HX.out.size))) HT8.out).mono ?_; rintro e w9 ⟨rfl, hb9⟩; have hb89 := hb8.trans (hb9.mono hb8.size); have HW9 := HWX.trans (hb89.mono HWX.size); have hc9 := hcx.trans (hb89.mono hcx.size); obtain ⟨g0, g1, g2⟩ := cells3 w w9 _ _ _ _ hc9; obtain ⟨u0, u1, u2⟩ := cells3 w7 w9 _ _ _ _ hb89; have hb79 := HX7.out.trans (hb89.mono HX7.out.size))
    | (go_at_call 9; have hSF := sameFormula_yes (vn : Int) _ q _ d bs _ a _ cap xss w9 (HRB.out.keep hb79) (HQK.out _ HW9) (HRC.out.keep hb79) (HRK.out _ HW9); rw [HNB.out, HNC.out] at hSF; refine hSF.mono ?_; rintro e w10 ⟨rfl, hb10⟩))
  (try go_ret)
  exact ⟨rfl, HW9.trans (hb10.mono HW9.size)⟩

theorem lawChecks (A : Nat → Addr) (vars : Int) (q : Option Addr) (d : Nat) (bs : List Blk) (a : Option Addr) (cap : Nat) (xss : List (List Int)) (w : World) (hS : Sents8 w A) (ht : Tabs w) (hq : BRowsAt w q d bs) (hr : RowsAt w a cap xss) (hv1 : -9223372036854775808 ≤ vars) (hv2 : vars ≤ 9223372036854775807)
    (hint : ∀ xs ∈ xss, ∀ y ∈ xs, -9223372036854775808 ≤ y ∧ y ≤ 9223372036854775807) (hlen : ∀ xs ∈ xss, xs.length ≤ 140737488355328) :
    Calls Tryz.prog 4 #[.agg #[.slice q bs.length d, .int .i64 vars, .slice a xss.length cap]] w fun e w' => e = .returned (.bool true) ∧ Below w.heap.size w w' := by
  cases hd : lightB bs xss with
  | false => exact checks_dark A vars q d bs a cap xss w hS ht hq hr hlen hd
  | true =>
    by_cases hz : ∃ p k, CheckFF vars bs xss 0 p k
    · obtain ⟨p, k, hz⟩ := hz
      have h0 := (fgood hd hz).v0
      obtain ⟨vn, rfl⟩ : ∃ vn : Nat, vars = vn := ⟨vars.toNat, by omega⟩
      exact checks_good A vn q d bs a cap xss w hS ht hq hr hint hd p k hz
    · exact checks_bad A vars q d bs a cap xss w hS ht hq hr hv1 hv2 hint hd hz
end Go.Proofs.YtfoohdknjacenaaGreatDoor

namespace Go.Proofs.YtfoohdknjacenaaGreatDoor
open Go.RowKit

theorem rowOf {w : World} {a : Option Addr} {len cap : Nat} {zs : List Int}
    (h : (a = none ∧ len = 0 ∧ cap = 0 ∧ zs = []) ∨ ∃ x, a = some x ∧ len ≤ cap ∧ cap ≤ maxLen ∧ zs.length = cap ∧ (∀ i, i < zs.length → w.cell? (x.add i) = some (.int .i64 (zs.getD i 0))) ∧ ∀ n ∈ zs, (Lit.int .i64 n).wf = true) :
    ∃ xs : List Int, xs.length = len ∧ RowAt w a cap xs ∧ ∀ y ∈ xs, -9223372036854775808 ≤ y ∧ y ≤ 9223372036854775807 := by
  rcases h with ⟨rfl, rfl, rfl, rfl⟩ | ⟨x, rfl, hl, hm, hz, hc, hw⟩
  · exact ⟨[], rfl, ⟨by simp, by unfold maxLen; omega, .inl rfl⟩, by simp⟩
  · refine ⟨zs.take len, by simp; omega, ⟨by simp; omega, hm, ?_⟩, fun y hy => bounds_i64 (hw y (List.mem_of_mem_take hy))⟩
    by_cases h0 : len = 0
    · left; simp [h0]
    · right
      obtain ⟨b, off, spot⟩ := x
      have h1 := hc 0 (by omega)
      have hs : spot = none := by simpa [Addr.add] using World.cell?_spot h1
      subst hs
      refine ⟨b, off, rfl, World.block_lt_of_cell? w _ h1, fun i hi => ?_⟩
      have hi' : i < len := by simp at hi; omega
      have h2 := hc i (by omega)
      have he : (⟨b, off, none⟩ : Addr).add i = ⟨b, off + i, none⟩ := by
        by_cases e : i = 0
        · subst e; rfl
        · simp [Addr.add, e]
      rw [he] at h2
      rw [h2]
      simp [List.getD, hi']
end Go.Proofs.YtfoohdknjacenaaGreatDoor

namespace Go.Proofs.YtfoohdknjacenaaGreatDoor
open Go.RowKit Go.ChangeShapes Go.WideShapes Go.ChangeAt Go.Deep Go.Joins

theorem cellsInt : Tryz.prog.cellsOf 3 = 1 := by kernel_rfl
theorem cellsInts : Tryz.prog.cellsOf 46 = 1 := by kernel_rfl
theorem bytesInt : Tryz.prog.bytesOf 3 = 8 := by kernel_rfl

set_option maxRecDepth 100000 in
theorem open_row {H : Type} {enc : TypeId × Value → H} {W : World} {base : Nat} {v : Value} {d : DataW H} {p : List MemPlace} (hv : Value.okWide Tryz.prog W .any base 46 v) (h : DataW.Trod enc Tryz.prog W 0 (fun _ => true) true 46 v d p) :
    ∃ a cap xs, v = .slice a (List.length xs) cap ∧ RowAt W a cap xs ∧ ∀ y ∈ xs, -9223372036854775808 ≤ y ∧ y ≤ 9223372036854775807 := by
  obtain ⟨a0, len0, cap0, rfl⟩ := okWide_slice Tryz.underlying46 hv
  obtain ⟨fuel, hf⟩ := h
  rcases open_ints Tryz.underlying46 Tryz.underlying3 cellsInt hf with ⟨hcs, _⟩ | ⟨x, l, c, zs, hcs, _, hl, hm, hz, _, hcell, hwz⟩
  · simp [Value.cells] at hcs
    obtain ⟨rfl, rfl, rfl⟩ := hcs
    exact ⟨none, 0, [], rfl, ⟨Nat.le_refl _, by unfold maxLen; omega, .inl rfl⟩, by simp⟩
  · simp [Value.cells] at hcs
    obtain ⟨rfl, rfl, rfl⟩ := hcs
    obtain ⟨xs, hx, hr, hb⟩ := rowOf (.inr ⟨x, rfl, hl, hm, by simpa using hz, hcell, hwz⟩)
    exact ⟨some x, cap0, xs, by rw [hx], hr, hb⟩

theorem weightsAll_mem' {H : Type} {P : Program} {e : TypeId} : ∀ {l : List (DataW H)} {d : DataW H}, d ∈ l → ∀ n ∈ d.weights P e, n ∈ DataW.weightsAll P e l
  | d' :: r, d, hd, n, hn => by
    simp only [DataW.weightsAll, List.mem_append]
    rcases List.mem_cons.1 hd with rfl | h
    · exact Or.inl hn
    · exact Or.inr (weightsAll_mem' h n hn)

theorem open_rows {H : Type} {enc : TypeId × Value → H} {W : World} {n : Nat} {v : Value} {y : DataW H × List MemPlace} (h : DataW.trod enc Tryz.prog W 0 (fun _ => true) true n 25 [v] = some y) :
    ∃ a cap xss, v = .slice a (List.length xss) cap ∧ RowsAt W a cap xss ∧ (∀ xs ∈ xss, ∀ z ∈ xs, -9223372036854775808 ≤ z ∧ z ≤ 9223372036854775807) ∧
      ((∀ m ∈ y.1.weights Tryz.prog 25, m ≤ reachBytes) → ∀ xs ∈ xss, xs.length ≤ 140737488355328) := by
  rcases open_int_rows Tryz.underlying25 Tryz.underlying46 Tryz.underlying3 cellsInts cellsInt h with ⟨hcs, _⟩ | ⟨a, len, cap, Af, L, C, Z, hcs, _, hl, hm, hx, hr⟩
  · simp at hcs
    subst hcs
    exact ⟨none, 0, [], rfl, ⟨Nat.le_refl _, by unfold maxLen; omega, .inl rfl⟩, by simp, by simp⟩
  · simp at hcs
    subst hcs
    have hgt : ∀ i, i < len → (((List.range len).map fun r => (Z r).take (L r)).getD i []) = (Z i).take (L i) := fun i hi => by simp [List.getD, hi]
    refine ⟨some a, cap, (List.range len).map fun r => (Z r).take (L r), by simp, ⟨by simpa using hl, hm, ?_⟩, ?_, ?_⟩
    · rcases Nat.eq_zero_or_pos len with h0 | h0
      · left; simp [h0]
      · right
        obtain ⟨b, off, spot⟩ := a
        have h1 := (hr 0 (by omega)).1
        have hs : spot = none := by simpa [Addr.add] using World.cell?_spot h1
        subst hs
        have he : ∀ (b off i : Nat), (⟨b, off, none⟩ : Addr).add i = ⟨b, off + i, none⟩ := fun b off i => by
          by_cases e : i = 0
          · subst e; rfl
          · simp [Addr.add, e]
        refine ⟨b, off, rfl, World.block_lt_of_cell? W _ h1, fun i hi => ?_⟩
        have hi' : i < len := by simpa using hi
        obtain ⟨c1, c2, c3, c4, c5, c6, c7⟩ := hr i (by omega)
        rw [he] at c1
        refine ⟨_, c1, ?_⟩
        rw [hgt i hi']
        have hlen : ((Z i).take (L i)).length = L i := by simp; omega
        refine ⟨Af i, C i, by rw [hlen], by omega, c3, ?_⟩
        cases ha : Af i with
        | none => left; have := c6 ha; omega
        | some a' =>
          by_cases hz : L i = 0
          · left; omega
          · right
            obtain ⟨_, c8⟩ := c7 a' ha
            obtain ⟨b', off', spot'⟩ := a'
            have h2 := c8 0 (by omega)
            have hs : spot' = none := by simpa [Addr.add] using World.cell?_spot h2
            subst hs
            refine ⟨b', off', rfl, World.block_lt_of_cell? W _ h2, fun j hj => ?_⟩
            have hj' : j < L i := by omega
            have h3 := c8 j (by omega)
            rw [he] at h3
            rw [h3]
            simp [List.getD, hj']
    · intro xs hxs z hz
      obtain ⟨r, hr', rfl⟩ := List.mem_map.1 hxs
      have hrl : r < len := by simpa using hr'
      obtain ⟨_, _, _, _, c5, _⟩ := hr r (by omega)
      exact bounds_i64 (c5 z (List.mem_of_mem_take hz))
    · intro hw xs hxs
      obtain ⟨r, hr', rfl⟩ := List.mem_map.1 hxs
      have hrl : r < len := by simpa using hr'
      obtain ⟨_, c2, _, c4, _, c6, _⟩ := hr r (by omega)
      have hle : ((Z r).take (L r)).length = L r := by simp; omega
      rw [hle]
      cases ha : Af r with
      | none => have := c6 ha; omega
      | some a' =>
        have hmem : (L r + (C r - L r)) * 8 ∈ y.1.weights Tryz.prog 25 := by
          rw [hx]
          simp only [DataW.weights, Tryz.underlying25, List.mem_cons, List.mem_append]
          refine .inr (.inl (weightsAll_mem' (d := intRow .i64 (Af r) (L r) (Z r)) (List.mem_map.2 ⟨r, by simpa using hrl, rfl⟩) _ ?_))
          rw [ha]
          simp [intRow, DataW.weights, Tryz.underlying46, bytesInt, lits]
          left
          omega
        have := hw _ hmem
        have hrb : reachBytes = 140737488351232 := rfl
        omega

/-- The weights of a formula's clauses are among the formula's. -/
theorem cnf_weights {H : Type} {x y : DataW H} {m : Nat} (h : m ∈ y.weights Tryz.prog 25) : m ∈ (DataW.agg [x, y]).weights Tryz.prog 27 := by
  simp only [DataW.weights, Tryz.underlying27]
  simpa [DataW.weightsEach] using Or.inr h
end Go.Proofs.YtfoohdknjacenaaGreatDoor

namespace Go.Proofs.YtfoohdknjacenaaGreatDoor
open Go.RowKit Go.ChangeShapes Go.WideShapes Go.ChangeAt Go.Deep Go.Joins

theorem add_none (b off i : Nat) : (⟨b, off, none⟩ : Addr).add i = ⟨b, off + i, none⟩ := by
  by_cases e : i = 0
  · subst e; rfl
  · simp [Addr.add, e]

theorem open_blks {H : Type} {enc : TypeId × Value → H} {W : World} {n : Nat} {v : Value} {y : DataW H × List MemPlace} (h : DataW.trod enc Tryz.prog W 0 (fun _ => true) true n 24 [v] = some y) :
    ∃ a cap bs, v = .slice a (List.length bs) cap ∧ BRowsAt W a cap bs := by
  rcases Deep.open_slice_pairs Tryz.underlying24 Tryz.underlying51 (by kernel_rfl) rfl rfl (by kernel_rfl) (by kernel_rfl) h with ⟨hcs, _⟩ | ⟨a, len, cap, m, nn, V0, V1, D0, D1, P0, P1, hcs, _, hl, hm, hmm, _, hx⟩
  · simp at hcs
    subst hcs
    exact ⟨none, 0, [], rfl, BRowsAt.nil W⟩
  · simp at hcs
    subst hcs
    have hlm : len ≤ m := by rw [hmm]; simp; exact hl
    have hi : ∀ i, i < m → ∃ x : Blk, W.cell? (a.add (i * 2)) = some (.bool x.1) ∧ ∃ u, W.cell? (a.add (i * 2 + 1)) = some u ∧ Row W u x.2 := by
      intro i hi
      obtain ⟨c0, c1, t0, t1⟩ := hx i hi
      obtain ⟨z0, e0, _⟩ := DataW.trod_bool Tryz.underlying4 t0
      simp only [List.cons.injEq, and_true] at e0
      rcases open_ints Tryz.underlying46 Tryz.underlying3 cellsInt t1 with ⟨hcs, _⟩ | ⟨x, l, c, zs, hcs, _, hl, hm, hz, _, hcell, hwz⟩
      · simp only [List.cons.injEq, and_true] at hcs
        exact ⟨(z0, []), by rw [c0, e0], _, c1, none, 0, by rw [hcs]; rfl, ⟨Nat.le_refl _, by unfold maxLen; omega, .inl rfl⟩⟩
      · simp only [List.cons.injEq, and_true] at hcs
        obtain ⟨xs, hx, hr, hb⟩ := rowOf (.inr ⟨x, rfl, hl, hm, by simpa using hz, hcell, hwz⟩)
        exact ⟨(z0, xs), by rw [c0, e0], _, c1, some x, c, by rw [hcs, hx], hr⟩
    let f : Nat → Blk := fun i => if h : i < m then Classical.choose (hi i h) else blk0
    have hf : ∀ i, i < m → W.cell? (a.add (i * 2)) = some (.bool (f i).1) ∧ ∃ u, W.cell? (a.add (i * 2 + 1)) = some u ∧ Row W u (f i).2 := by
      intro i h
      have := Classical.choose_spec (hi i h)
      show _ ∧ _
      simp only [f, dif_pos h]
      exact this
    clear_value f
    refine ⟨some a, cap, (List.range len).map f, by simp, ⟨by simpa using hl, hm, ?_⟩⟩
    rcases Nat.eq_zero_or_pos len with h0 | h0
    · left; simp [h0]
    · right
      obtain ⟨b, off, spot⟩ := a
      have h1 := (hf 0 (by omega)).1
      have hs : spot = none := by simpa [Addr.add] using World.cell?_spot h1
      subst hs
      refine ⟨b, off, rfl, World.block_lt_of_cell? W _ h1, fun i hi => ?_⟩
      have hi' : i < len := by simpa using hi
      have hg : ((List.range len).map f).getD i blk0 = f i := by simp [List.getD, hi']
      obtain ⟨k1, u, k2, k3⟩ := hf i (by omega)
      rw [add_none] at k1 k2
      rw [hg]
      exact ⟨k1, u, k2, k3⟩

/-- The weights of a formula's clauses are among the formula's. -/
theorem fm_weights {H : Type} {b x y : DataW H} {m : Nat} (h : m ∈ y.weights Tryz.prog 25) : m ∈ (DataW.agg [b, .agg [x, y]]).weights Tryz.prog 29 := by
  have h2 : m ∈ (DataW.agg [x, y]).weights Tryz.prog 27 := by
    simp only [DataW.weights, Tryz.underlying27]
    simpa [DataW.weightsEach] using Or.inr h
  simp only [DataW.weights, Tryz.underlying29]
  simpa [DataW.weightsEach] using Or.inr h2

theorem cellsFm : Tryz.prog.cellsOf 29 = 3 := by kernel_rfl
theorem cellsCn : Tryz.prog.cellsOf 27 = 2 := by kernel_rfl
theorem cellsBs : Tryz.prog.cellsOf 24 = 1 := by kernel_rfl
theorem cellsRs : Tryz.prog.cellsOf 25 = 1 := by kernel_rfl
set_option maxRecDepth 100000 in
theorem open_formula {H : Type} {enc : TypeId × Value → H} {W : World} {base : Nat} {v : Value} {d : DataW H} {p : List MemPlace} (hv : Value.okWide Tryz.prog W .any base 29 v) (h : DataW.Trod enc Tryz.prog W 0 (fun _ => true) true 29 v d p) :
    ∃ q dd bs vars a cap xss, v = .agg #[.slice q (List.length bs) dd, .int .i64 vars, .slice a (List.length xss) cap] ∧ BRowsAt W q dd bs ∧ RowsAt W a cap xss ∧ (-9223372036854775808 ≤ vars ∧ vars ≤ 9223372036854775807) ∧
      (∀ xs ∈ xss, ∀ z ∈ xs, -9223372036854775808 ≤ z ∧ z ≤ 9223372036854775807) ∧ ((∀ m ∈ d.weights Tryz.prog 29, m ≤ reachBytes) → ∀ xs ∈ xss, xs.length ≤ 140737488355328) := by
  obtain ⟨cs, rfl, hsz⟩ := okWide_struct Tryz.underlying29 hv
  obtain ⟨c0, c1, c2, rfl⟩ := array3 (hsz.trans cellsFm)
  obtain ⟨fuel, hf⟩ := h
  obtain ⟨y0, y1, n, hx, _, h0, h1⟩ := trod_struct2 Tryz.underlying29 hf
  simp only [Prod.mk.injEq] at hx
  obtain ⟨rfl, rfl⟩ := hx
  have h0' : DataW.trod enc Tryz.prog W 0 (fun _ => true) true n 24 [c0] = some y0 := by simpa [Value.cells, cellsBs] using h0
  have h1' : DataW.trod enc Tryz.prog W 0 (fun _ => true) true n 27 [c1, c2] = some y1 := by simpa [Value.cells, cellsCn] using h1
  clear h0 h1
  obtain ⟨z0, z1, n', hx, _, g0, g1⟩ := trod_struct2 Tryz.underlying27 h1'
  have g0' : DataW.trod enc Tryz.prog W 0 (fun _ => true) true n' 3 [c1] = some z0 := by simpa [cellsInt] using g0
  have g1' : DataW.trod enc Tryz.prog W 0 (fun _ => true) true n' 25 [c2] = some z1 := by simpa [cellsRs] using g1
  clear g0 g1 h1'
  obtain ⟨y1a, y1b⟩ := y1
  simp only [Prod.mk.injEq] at hx
  obtain ⟨rfl, rfl⟩ := hx
  obtain ⟨q, dd, bs, rfl, hB⟩ := open_blks h0'
  obtain ⟨vars, e, _, wv⟩ := DataW.trod_int Tryz.underlying3 g0'
  simp only [List.cons.injEq, and_true] at e
  subst e
  obtain ⟨a, cap, xss, rfl, hR, hRb, hRl⟩ := open_rows g1'
  exact ⟨q, dd, bs, vars, a, cap, xss, rfl, hB, hR, bounds_i64 wv, hRb, fun hw => hRl fun m hm => hw m (fm_weights hm)⟩
end Go.Proofs.YtfoohdknjacenaaGreatDoor
