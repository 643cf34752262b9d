/- The walk of skolemlaw4.DimacsBytes: it answers true. Conditions: the slice reads as 64-bit ints; the errors and the table of powers of ten lie as the program lays them. -/
import Derived.Test.YteihaanpllmieaaDoorLawReads
import Derived.Test.YteihaanpllmieaaDoorBytesH
import Derived.Test.YteihaanpllmieaaDoorTextQ
import Derived.Test.YteihaanpllmieaaDoorMakeC
import Derived.Test.YteihaanpllmieaaDoorTabs8
import Derived.Test.YteihaanpllmieaaDoorOpenRows
namespace Go.Proofs.YteihaanpllmieaaDoor
open Go.RowKit

theorem good_small {xss : List (List Int)} {m : Int} (hm : m ≤ 100) (h : ∀ c ∈ xss, ∀ l ∈ c, l ≠ 0 ∧ isF l m = true) : ∀ c ∈ xss, ∀ l ∈ c, -1000 < l ∧ l < 1000 := fun c hc l hl => by
  have := (h c hc l hl).2
  unfold isF at this
  simp at this
  omega
theorem len_le_sum {xss : List (List Int)} {c : List Int} (h : c ∈ xss) : c.length ≤ (xss.map List.length).sum := by
  induction xss with
  | nil => cases h
  | cons d xss ih =>
    simp only [List.map_cons, List.sum_cons]
    rcases List.mem_cons.1 h with rfl | h
    · omega
    · have := ih h; omega

set_option maxHeartbeats 4000000 in
theorem bytes_in (A : Nat → Addr) (a : Option Addr) (c : Nat) (cs : List Int) (vn : Nat) (w : World) (hS : Sents8 w A) (ht : Tabs w) (hv : RowAt w a c cs) (hcs : ∀ y ∈ cs, -9223372036854775808 ≤ y ∧ y ≤ 9223372036854775807) (hn : cs.length ≤ 100) (hv1 : 1 ≤ vn) (hv2 : vn ≤ 60) :
    Calls Tryd.prog 4 #[.slice a cs.length c, .int .i64 (vn : Int)] w fun e w' => e = .returned (.bool true) ∧ Below w.heap.size w w' := by
  have HF := Lib.hid (first4_any A w hS)
  have HM := Lib.hid (fun W (hW : Below w.heap.size w W) => makeCNF_any a c cs vn W (by omega) (by omega) (hv.keep hW) hcs (by omega))
  have HBD := Lib.hid (fun W (hW : Below w.heap.size w W) a' c' xss (hr : RowsAt W a' c' xss) (hg : ∀ c ∈ xss, ∀ l ∈ c, l ≠ 0 ∧ isF l (vn : Int) = true) (h1 : (xss.map List.length).sum ≤ cs.length) (h2 : xss.length ≤ cs.length) => bytesD_any vn a' c' xss W (by omega) hr (fun c hc l hl => by have := good_small (by omega) hg c hc l hl; omega) (by have := textL_len vn xss (by omega) (by omega) (good_small (by omega) hg); omega) (by omega) (fun c hc => by have := len_le_sum hc; omega) (ht.keep hW))
  have HBR := Lib.hid (fun W (hW : Below w.heap.size w W) a' c' xss (hr : RowsAt W a' c' xss) (hg : ∀ c ∈ xss, ∀ l ∈ c, l ≠ 0 ∧ isF l (vn : Int) = true) (h1 : (xss.map List.length).sum ≤ cs.length) (h2 : xss.length ≤ cs.length) => refBytes_any vn a' c' xss W (by omega) hr (fun c hc l hl => by have := good_small (by omega) hg c hc l hl; omega) (by have := textL_len vn xss (by omega) (by omega) (good_small (by omega) hg); omega) (by omega) (ht.keep hW))
  have HRD := Lib.hid (fun W (hW : Below w.heap.size w W) v xss (hr : RowG (Value.int .u8) 0 W v (textL vn xss)) (hg : ∀ c ∈ xss, ∀ l ∈ c, l ≠ 0 ∧ isF l (vn : Int) = true) (h1 : (xss.map List.length).sum ≤ cs.length) (h2 : xss.length ≤ cs.length) => show Calls Tryd.prog 7 #[v] W fun e w' => (∃ cv, e = .returned (.tuple #[.agg #[.int .i64 (vn : Int), cv], .nilIface]) ∧ CRow w' W.heap.size cv xss) ∧ Below W.heap.size W w' from by
    refine (readD_any A v (textL vn xss) W (hS.keep hW) hr (textL_bts _ _) (by have := textL_len vn xss (by omega) (by omega) (good_small (by omega) hg); omega)).mono ?_
    rintro e w' ⟨⟨cv, ov, he, hc, ho⟩, hb⟩
    obtain ⟨ws, hrd⟩ := textL_read (vn : Int) xss (by omega) (by omega) (by omega) hg
    rw [hrd] at he hc ho
    obtain rfl : ov = .nilIface := ho
    exact ⟨⟨cv, he, hc⟩, hb⟩)
  have HSB := Lib.hid (fun (v u : Value) (xs : List Int) W (h1 : RowG (Value.int .u8) 0 W v xs) (h2 : RowG (Value.int .u8) 0 W u xs) => (sameBytes_any v u xs xs W h1 h2).mono fun e w' h => show e = .returned (.bool true) ∧ Below W.heap.size W w' from ⟨by rw [h.1]; simp, below_drawsG h.2⟩)
  clear hS ht hv hcs
  have hnb : decide ((100 : Int) < cs.length) = false := by simp; omega
  have hvb1 : decide ((vn : Int) < 1) = false := by simp; omega
  have hvb2 : decide ((60 : Int) < vn) = false := by simp; omega
  generalize cs.length = n at *
  go_enter Tryd.func4, Tryd.ntmps4
  go_wp2_with (first
    | (go_at_call 6; refine HF.out.mono ?_; rintro e w1 ⟨rfl, hb1⟩)
    | (go_at_call 18; refine (HM.out _ hb1).mono ?_; rintro e w2 ⟨⟨v, xss, rfl, hC, hg, hs1, hs2⟩, hb2⟩; have HW2 := hb1.trans (hb2.mono hb1.size); have hz2 := HW2.size; obtain ⟨a9, c9, rfl, hR⟩ := hC.rows; have HG := Lib.hid hg; clear hg; have hX := (Below.refl w2.heap.size w2).alloc (Nat.le_refl _) (.cells #[.int .i64 (vn : Int), .slice a9 xss.length c9] 26); have HR := Lib.hid (hR.keep hX); have hXs := hX.size)
    | (go_at_call 19; refine (HBD.out _ (HW2.trans (hX.mono hz2)) _ _ xss HR.out HG.out hs1 hs2).mono ?_; rintro e w3 ⟨⟨tv, rfl, ho3⟩, hb3⟩; have hx3 := hX.trans (hb3.mono hXs); have HW3 := HW2.trans (hx3.mono hz2); have HRT := Lib.hid (own_rowG (d := 0) ho3); obtain ⟨at3, ct3, rfl, _, _⟩ := own_shape ho3; clear ho3)
    | (go_at_call 7; refine (HRD.out _ HW3 _ xss HRT.out HG.out hs1 hs2).mono ?_; rintro e w4 ⟨⟨cv4, rfl, hC4⟩, hb4⟩; obtain ⟨a8, c8, rfl, hR4⟩ := hC4.rows; have hY := (Below.refl w4.heap.size w4).alloc (Nat.le_refl _) (.cells #[.int .i64 (vn : Int), .slice a8 xss.length c8] 26); have hYs := hY.size; have HR4 := Lib.hid (hR4.keep hY); have hx4 := hx3.trans ((hb4.trans (hY.mono hb4.size)).mono hx3.size); have HW4 := HW2.trans (hx4.mono hz2); obtain ⟨g1, g2⟩ := cells2 w2 _ _ _ _ (hb3.trans ((hb4.trans (hY.mono hb4.size)).mono hb3.size)); have HRX := Lib.hid (hR.keep hx4); have HRT4 := Lib.hid (HRT.out.keep (hb4.trans (hY.mono hb4.size))))
    | (go_at_call 21; refine (HBR.out _ HW4 _ _ xss HRX.out HG.out hs1 hs2).mono ?_; rintro e w5 ⟨⟨tv5, rfl, ho5⟩, hb5⟩; have HRT5 := Lib.hid (own_rowG (d := 0) ho5); have HRT6 := Lib.hid (HRT4.out.keep hb5); obtain ⟨at5, ct5, rfl, _, _⟩ := own_shape ho5; clear ho5)
    | (go_at_call 20; refine (HSB.out _ _ _ _ HRT6.out HRT5.out).mono ?_; rintro e w6 ⟨rfl, hb6⟩; have hb56 := hb5.trans (hb6.mono hb5.size); obtain ⟨g3, g4⟩ := cells2 w4 w6 _ _ _ hb56; have hx6 := hx4.trans (hb56.mono hx4.size); obtain ⟨g5, g6⟩ := cells2 w2 w6 _ _ _ (hb3.trans (((hb4.trans (hY.mono hb4.size)).trans (hb56.mono (by have := hb4.size; have := hY.size; omega))).mono hb3.size)); have HRA := Lib.hid (RowsAt.keep HR4.out hb56); have HRB := Lib.hid (hR.keep hx6); have HW6 := HW2.trans (hx6.mono hz2))
    | (go_at_call 13; refine (sameCNF_yes _ _ _ _ _ xss _ HRA.out HRB.out).mono ?_; rintro e w7 ⟨rfl, hb7⟩))
  go_ret
  exact ⟨rfl, HW6.trans (hb7.mono HW6.size)⟩

set_option maxHeartbeats 2000000 in
theorem lawBytes (A : Nat → Addr) (a : Option Addr) (c : Nat) (cs : List Int) (v : Int) (w : World) (hS : Sents8 w A) (ht : Tabs w) (hv : RowAt w a c cs) (hcs : ∀ y ∈ cs, -9223372036854775808 ≤ y ∧ y ≤ 9223372036854775807) :
    Calls Tryd.prog 4 #[.slice a cs.length c, .int .i64 v] w fun e w' => e = .returned (.bool true) ∧ Below w.heap.size w w' := by
  have HF := Lib.hid (first4_any A w hS)
  by_cases hn : 100 < cs.length
  · have hnb : decide ((100 : Int) < cs.length) = true := by simp; omega
    clear hS hv hcs ht
    generalize cs.length = n at *
    go_enter Tryd.func4, Tryd.ntmps4
    go_wp2_with (go_at_call 6; refine HF.out.mono ?_; rintro e w1 ⟨rfl, hb1⟩)
    go_ret
    exact ⟨rfl, hb1⟩
  · have hnb : decide ((100 : Int) < cs.length) = false := by simp; omega
    by_cases hvv : v < 1
    · have hvb : decide (v < 1) = true := by simpa using hvv
      clear hS hv hcs ht hn
      generalize cs.length = n at *
      go_enter Tryd.func4, Tryd.ntmps4
      go_wp2_with (go_at_call 6; refine HF.out.mono ?_; rintro e w1 ⟨rfl, hb1⟩)
      go_ret
      exact ⟨rfl, hb1⟩
    · by_cases hmm : 60 < v
      · have hvb : decide (v < 1) = false := by simpa using hvv
        have hmb : decide ((60 : Int) < v) = true := by simpa using hmm
        clear hS hv hcs ht hn hvv
        generalize cs.length = n at *
        go_enter Tryd.func4, Tryd.ntmps4
        go_wp2_with (go_at_call 6; refine HF.out.mono ?_; rintro e w1 ⟨rfl, hb1⟩)
        go_ret
        exact ⟨rfl, hb1⟩
      · obtain ⟨vn, rfl⟩ : ∃ vn : Nat, v = vn := ⟨v.toNat, by omega⟩
        exact bytes_in A a c cs vn w hS ht hv hcs (by omega) (by omega) (by omega)
end Go.Proofs.YteihaanpllmieaaDoor
