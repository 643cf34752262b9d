/- The contract of the document's own skolemref1.ReadFormula. Conditions: the slice reads as bytes, few of them. -/
import Derived.Test.YtfoohdknjacenaaGreatDoorFmG
import Derived.Test.YtfoohdknjacenaaGreatDoorReadF
import Derived.Test.YtfoohdknjacenaaGreatDoorRefC
import Derived.Test.YtfoohdknjacenaaGreatDoorRefSplit
import Derived.Test.YtfoohdknjacenaaGreatDoorRead
import Derived.RegionTactic
namespace Go.Proofs.YtfoohdknjacenaaGreatDoor
open Go.RowKit

def RRFPost (w : World) (e : Int) (R : Int × List Blk × List (List Int) × List Wd × Flt) (r : Ending) (w' : World) : Prop :=
  (∃ bv cv, r = .returned (.tuple #[.agg #[bv, .int .i64 R.1, cv], fltV R.2.2.2.1 e R.2.2.2.2]) ∧ BRow w' (w.heap.size + 1) bv R.2.1 ∧ CRow w' (w.heap.size + 1) cv R.2.2.1) ∧ Below w.heap.size w w'
theorem refSplit_row (v : Value) (xs : List Int) (cm : Bool) (w : World) (hv : RowG (Value.int .u8) 0 w v xs) (hb : Bts xs) (hn : xs.length ≤ 4000000) :
    Calls Tryz.prog 27 #[v, .bool cm] w fun e w' => (∃ u, e = .returned u ∧ WRow w' u (wordsL cm xs)) ∧ Below w.heap.size w w' :=
  (refSplit_any v xs cm w hv hb hn).mono fun _ _ ⟨u, he, ho, hb⟩ => ⟨⟨u, he, own_wrow ho⟩, hb⟩
theorem code_zero (f : Flt) : (f.code != 0) = !f.isOk := by cases f <;> rfl
theorem WCellsO.only {w w' : World} {g off q : Nat} {ws : List Wd} (h : WCellsO w g off ws) (ho : Only q w w') (hq : g ≠ q) : WCellsO w' g off ws := by
  have hb : w'.heap[g]? = w.heap[g]? := ho.block g h.sq (fun e => hq (by injection e))
  exact ⟨Nat.lt_of_lt_of_le h.sq ho.size, fun i hi => (World.cell?_of_block (a := ⟨g, off + i * 3, none⟩) hb).trans (h.text i hi), fun i hi => (World.cell?_of_block (a := ⟨g, off + i * 3 + 1, none⟩) hb).trans (h.pos i hi), fun i hi => (World.cell?_of_block (a := ⟨g, off + i * 3 + 2, none⟩) hb).trans (h.fst i hi)⟩
theorem Only.cell {q b o : Nat} {w w' : World} {v : Value} (h : Only q w w') (hc : w.cell? ⟨b, o, none⟩ = some v) (hb : b ≠ q) : w'.cell? ⟨b, o, none⟩ = some v :=
  (World.cell?_of_block (a := ⟨b, o, none⟩) (h.block b (World.block_lt_of_cell? w _ hc) (fun e => hb (by injection e)))).trans hc
theorem Only.froz {q b o : Nat} {w w' : World} (h : Only q w w') (hl : b < w.heap.size) (hc : w.frozen? ⟨b, o, none⟩ = false) (hb : b ≠ q) : w'.frozen? ⟨b, o, none⟩ = false :=
  (World.frozen?_of_block (a := ⟨b, o, none⟩) (h.block b hl (fun e => hb (by injection e)))).trans hc
theorem okV_has (vars : Int) (met : List Int) (v : Int) (h : 1 ≤ v) : okV vars met v = (decide (v ≤ vars) && !decide (v ∈ met)) := by
  unfold okV
  have h1 : decide (1 ≤ v) = true := by simpa using h
  have h2 : met.contains v = decide (v ∈ met) := by simp
  rw [h1, h2, Bool.true_and]

/-- Where the two results lie, whatever is made behind them. -/
theorem resWF {w W : World} (h : Below ((w.alloc (.cells #[.slice none 0 0, .int .i64 0, .slice none 0 0] 29)).alloc (.cells #[.int .i64 0, .bool false, .int .i64 0] 35)).heap.size ((w.alloc (.cells #[.slice none 0 0, .int .i64 0, .slice none 0 0] 29)).alloc (.cells #[.int .i64 0, .bool false, .int .i64 0] 35)) W) :
    W.cell? ⟨w.heap.size, 0, none⟩ = some (.slice none 0 0) ∧ W.cell? ⟨w.heap.size, 1, none⟩ = some (.int .i64 0) ∧ W.cell? ⟨w.heap.size, 2, none⟩ = some (.slice none 0 0) ∧ W.cell? ⟨w.heap.size + 1, 0, none⟩ = some (.int .i64 0) ∧ W.cell? ⟨w.heap.size + 1, 1, none⟩ = some (.bool false) ∧ W.cell? ⟨w.heap.size + 1, 2, none⟩ = some (.int .i64 0) ∧ (∀ k, W.frozen? ⟨w.heap.size, k, none⟩ = false) ∧ (∀ k, W.frozen? ⟨w.heap.size + 1, k, none⟩ = false) := by
  obtain ⟨hc, hf⟩ := bcell h
  refine ⟨?_, ?_, ?_, ?_, ?_, ?_, fun k => ?_, fun k => ?_⟩
  · rw [hc _ _ (by simp <;> omega), World.cell?_alloc_lt _ _ ⟨w.heap.size, 0, none⟩ (by simp), World.cell?_alloc_at _ _ _ _ (by simp)]; rfl
  · rw [hc _ _ (by simp <;> omega), World.cell?_alloc_lt _ _ ⟨w.heap.size, 1, none⟩ (by simp), World.cell?_alloc_at _ _ _ _ (by simp)]; rfl
  · rw [hc _ _ (by simp <;> omega), World.cell?_alloc_lt _ _ ⟨w.heap.size, 2, none⟩ (by simp), World.cell?_alloc_at _ _ _ _ (by simp)]; rfl
  · rw [hc _ _ (by simp <;> omega), World.cell?_alloc_at _ _ _ _ (by simp)]; rfl
  · rw [hc _ _ (by simp <;> omega), World.cell?_alloc_at _ _ _ _ (by simp)]; rfl
  · rw [hc _ _ (by simp <;> omega), World.cell?_alloc_at _ _ _ _ (by simp)]; rfl
  · rw [hf _ _ (by simp <;> omega), World.frozen?_alloc_old _ _ ⟨w.heap.size, k, none⟩ (by simp)]; exact World.frozen?_alloc_at _ _ _ _ (by simp)
  · rw [hf _ _ (by simp <;> omega)]; exact World.frozen?_alloc_at _ _ _ _ (by simp)

set_option maxRecDepth 8000 in
set_option maxHeartbeats 4000000 in
theorem refReadF_any (v : Value) (xs : List Int) (w : World) (hv : RowG (Value.int .u8) 0 w v xs) (hb : Bts xs) (hn : xs.length ≤ 4000) :
    Calls Tryz.prog 8 #[v] w (RRFPost w xs.length (readFL xs)) := by
  obtain ⟨hok, hwn⟩ := words_ok hb hn
  have HSP := Lib.hid (fun W (hW : Below w.heap.size w W) => refSplit_row v xs true W (hv.keep hW) hb (by omega))
  have HH := Lib.hid (fun u W (h : WRow W u (wordsL true xs)) => refHead_any u (wordsL true xs) xs.length W h hok hwn)
  have HC := Lib.hid (fun u W j vars many (h : WRowO W u (((wordsL true xs).drop 4).drop j)) (h1 : -9223372036854775808 ≤ vars) (h2 : vars ≤ 9223372036854775807) => refCls_any u (((wordsL true xs).drop 4).drop j) xs.length vars many W h ((hok.drop 4).drop j) (by rw [List.length_drop, List.length_drop]; omega) h1 h2)
  have HOKW := Lib.hid hok
  obtain ⟨a, cap, rfl, hcl, hcm, _⟩ := hv
  unfold maxLen at hcm
  clear hb hok
  have hbw : ∀ o, Below w.heap.size w (w.alloc o) := fun o => (Below.refl _ w).alloc (Nat.le_refl _) _
  have HB := Lib.hid hbw; clear hbw
  have H4 := Lib.hid (fun h => head_four (ws := wordsL true xs) h)
  have HBD := Lib.hid (fun h => head_bd2 (ws := wordsL true xs) h)
  unfold readFL
  generalize wordsL true xs = ws at *
  generalize hlen : xs.length = n at *
  unfold RHPost at HH
  unfold RCPost at HC
  cases hk : (headL ws).2.2.isOk with
  | false =>
    rw [if_neg (by simp)]
    have hcd : ((headL ws).2.2.code != 0) = true := by rw [code_zero, hk]; rfl
    clear HC H4 HBD HOKW hk
    have HFV := Lib.hid (show fltV ws n (headL ws).2.2 = .agg #[.int .i64 (headL ws).2.2.code, .bool (headL ws).2.2.placed, .int .i64 ((headL ws).2.2.pos ws n)] from rfl)
    rw [HFV.out] at HH
    show Calls _ _ _ _ (fun r w' => (∃ bv cv, r = .returned (.tuple #[.agg #[bv, .int .i64 0, cv], .agg #[.int .i64 (headL ws).2.2.code, .bool (headL ws).2.2.placed, .int .i64 ((headL ws).2.2.pos ws n)]]) ∧ BRow w' (w.heap.size + 1) bv [] ∧ CRow w' (w.heap.size + 1) cv []) ∧ Below w.heap.size w w')
    clear HFV
    generalize (headL ws).2.2.pos ws n = fp at *
    generalize (headL ws).2.2.placed = fl at *
    generalize (headL ws).2.2.code = fc at *
    generalize (headL ws).2.1 = n2 at *
    generalize (headL ws).1 = n1 at *
    go_enter Tryz.func8, Tryz.ntmps8
    go_wp2_with (first
      | (go_at_call 27; refine (HSP.out _ ((HB.out _).alloc (by simp) _)).mono ?_; rintro e w1 ⟨⟨u, rfl, hr⟩, hb1⟩)
      | (go_at_call 28; refine (HH.out _ _ hr).mono ?_; rintro e w2 ⟨rfl, hb2⟩; have hba2 := hb1.trans (hb2.mono hb1.size); have hsz := hba2.size; simp at hsz; obtain ⟨r1, r2, r3, r4, r5, r6, r7, r8⟩ := resWF (hba2.alloc hba2.size (.cells #[.int .i64 fc, .bool fl, .int .i64 fp] 35))))
    have q1 : ¬ w.heap.size = w2.heap.size := by omega
    have q2 : ¬ w.heap.size + 1 = w2.heap.size := by omega
    have q3 : ¬ w2.heap.size = w.heap.size := by omega
    have q4 : ¬ w2.heap.size = w.heap.size + 1 := by omega
    go_region
    go_wp2
    have hbw : Below w.heap.size w w2 := ((HB.out _).alloc (by simp) _).trans (hba2.mono (by simp; omega))
    exact bodyPost_ret (v := .tuple #[.agg #[.slice none 0 0, .int .i64 0, .slice none 0 0], .agg #[.int .i64 fc, .bool fl, .int .i64 fp]]) (by simp [results, Tryz.results8, go_sem, r1, r2, r3, r4, r5, r6]) rfl ⟨⟨_, _, rfl, BRow.nil _ _, CRow.nil _ _⟩, ((((((((hbw.alloc (by omega) _).setCell (Nat.le_refl _) _).setCell (Nat.le_refl _) _).setCell (Nat.le_refl _) _).setCell (by simp) _).setCell (by simp) _).setCell (by simp) _).drew)⟩
  | true =>
    rw [if_pos rfl]
    have h4 := H4.out hk
    obtain ⟨hd1, hd2⟩ := HBD.out hk
    have HOK := Lib.hid ((isOk_iff _).1 hk)
    clear H4 HBD
    rw [HOK.out] at HH
    have HFV := Lib.hid (show fltV ws n .ok = .agg #[.int .i64 0, .bool false, .int .i64 0] from rfl)
    rw [HFV.out] at HH
    clear HOK hk HFV
    generalize (headL ws).2.1 = n2 at *
    generalize (headL ws).1 = n1 at *
    obtain ⟨vn, rfl⟩ : ∃ vn : Nat, n1 = vn := ⟨n1.toNat, by omega⟩
    have HCJ := Lib.hid (fun u W j h => HC.out u W j (vn : Int) n2 h (by omega) (by omega))
    clear HC
    have HRW : Hid (∀ W u, WRow W u ws → ∃ g c, u = .slice (some ⟨g, 0, none⟩) ws.length c ∧ ws.length ≤ c ∧ c ≤ 9223372036854775807 ∧ WCells W g ws) := fun W u h => wrow_some h (by omega)
    generalize hR0 : (if (blkS (vn : Int) 0 (ws.drop 4) [] [] none).2.2.isOk = true then
      if (clausesL (vn : Int) n2 0 ((ws.drop 4).drop (blkS (vn : Int) 0 (ws.drop 4) [] [] none).2.1) [] []).2.isOk = true then
        ((vn : Int), (blkS (vn : Int) 0 (ws.drop 4) [] [] none).1, (clausesL (vn : Int) n2 0 ((ws.drop 4).drop (blkS (vn : Int) 0 (ws.drop 4) [] [] none).2.1) [] []).1, ([] : List Wd), Flt.ok)
      else (0, [], [], (ws.drop 4).drop (blkS (vn : Int) 0 (ws.drop 4) [] [] none).2.1, (clausesL (vn : Int) n2 0 ((ws.drop 4).drop (blkS (vn : Int) 0 (ws.drop 4) [] [] none).2.1) [] []).2)
    else (0, [], [], ws.drop 4, (blkS (vn : Int) 0 (ws.drop 4) [] [] none).2.2)) = R0 at *
    have HR0 := Lib.hid hR0; clear hR0
    go_enter Tryz.func8, Tryz.ntmps8
    go_wp2_with (first
      | (go_at_call 27; refine (HSP.out _ ((HB.out _).alloc (by simp) _)).mono ?_; rintro e w1 ⟨⟨u, rfl, hr⟩, hb1⟩; obtain ⟨g, c, rfl, hmc, hc9, hwc⟩ := HRW.out _ _ hr)
      | (go_at_call 28; refine (HH.out _ _ hr).mono ?_; rintro e w2 ⟨rfl, hb2⟩; have hba2 := hb1.trans (hb2.mono hb1.size); have hsz := hba2.size; simp at hsz))
    have hQ := w2.heap.size
    have hW3b : Below w2.heap.size w2 ((w2.alloc (.cells #[.int .i64 0, .bool false, .int .i64 0] 35)).alloc (.cells #[.slice none 0 0, .int .i64 0, .slice none 0 0] 29)) := ((Below.refl _ _).alloc (Nat.le_refl _) _).alloc (by simp) _
    have hW3s : ((w2.alloc (.cells #[.int .i64 0, .bool false, .int .i64 0] 35)).alloc (.cells #[.slice none 0 0, .int .i64 0, .slice none 0 0] 29)).heap.size = w2.heap.size + 2 := by simp
    have hF := cells3 w2 ((w2.alloc (.cells #[.int .i64 0, .bool false, .int .i64 0] 35)).alloc (.cells #[.slice none 0 0, .int .i64 0, .slice none 0 0] 29)) _ _ _ _ ((Below.refl _ _).alloc (Nat.le_refl _) _)
    have hQc := cells3 (w2.alloc (.cells #[.int .i64 0, .bool false, .int .i64 0] 35)) ((w2.alloc (.cells #[.int .i64 0, .bool false, .int .i64 0] 35)).alloc (.cells #[.slice none 0 0, .int .i64 0, .slice none 0 0] 29)) _ _ _ _ (Below.refl _ _)
    have hFf : ∀ k, ((w2.alloc (.cells #[.int .i64 0, .bool false, .int .i64 0] 35)).alloc (.cells #[.slice none 0 0, .int .i64 0, .slice none 0 0] 29)).frozen? ⟨w2.heap.size, k, none⟩ = false := fun k => by
      rw [World.frozen?_alloc_old _ _ ⟨w2.heap.size, k, none⟩ (by simp)]; exact World.frozen?_alloc_at _ _ _ _ (by simp)
    have hQf : ∀ k, ((w2.alloc (.cells #[.int .i64 0, .bool false, .int .i64 0] 35)).alloc (.cells #[.slice none 0 0, .int .i64 0, .slice none 0 0] 29)).frozen? ⟨w2.heap.size + 1, k, none⟩ = false := fun k => World.frozen?_alloc_at _ _ _ _ (by simp)
    rw [show (w2.alloc (.cells #[.int .i64 0, .bool false, .int .i64 0] 35)).heap.size = w2.heap.size + 1 by simp] at hQc
    generalize (w2.alloc (.cells #[.int .i64 0, .bool false, .int .i64 0] 35)).alloc (.cells #[.slice none 0 0, .int .i64 0, .slice none 0 0] 29) = W3 at *
    have HW3B := Lib.hid hW3b; clear hW3b
    have HFC := Lib.hid (And.intro hF hFf); clear hF hFf
    have hba3 := hba2.trans (HW3B.out.mono hba2.size)
    have HBA3 := Lib.hid hba3; clear hba3
    have hwo : WCellsO W3 g 0 ws := by
      have h1 : WRowO w1 (.slice (some ⟨g, 0, none⟩) ws.length c) ws := WRow.o hr
      obtain ⟨a', c', e1, _, _, h2⟩ := h1
      injection e1 with e1 _ _
      obtain ⟨g', off', e2, h3⟩ := h2.resolve_left (by omega)
      rw [e2] at e1
      injection e1 with e1
      injection e1 with e3 e4
      subst e3; subst e4
      exact (h3.keep hb2).keep (HW3B.out)
    have hgl : g < w2.heap.size := by
      have := hwc.sq
      have := hb2.size
      omega
    have HWO := Lib.hid hwo; clear hwo
    clear hr hQ hwc
    have HU := Lib.hid (show ∀ j, (ws.drop 4).getD j wd0 = ws.getD (4 + j) wd0 from fun j => by simp [List.getD])
    have HUL := Lib.hid (show (ws.drop 4).length = ws.length - 4 from List.length_drop ..)
    have HTX := Lib.hid (fun (k : Nat) W (hW : WRowO W (.slice (some ⟨g, 0, none⟩) ws.length c) ws) => refText_any (.slice (some ⟨g, 0, none⟩) ws.length c) ws k n W hW)
    have HRWO : Hid (∀ W, Only (w2.heap.size + 1) W3 W → WRowO W (.slice (some ⟨g, 0, none⟩) ws.length c) ws) := fun W hW => ⟨_, c, rfl, hmc, by unfold maxLen; omega, .inr ⟨g, 0, rfl, HWO.out.only hW (by omega)⟩⟩
    have HRES : Hid (∀ W, Only (w2.heap.size + 1) W3 W → Below ((w.alloc (.cells #[.slice none 0 0, .int .i64 0, .slice none 0 0] 29)).alloc (.cells #[.int .i64 0, .bool false, .int .i64 0] 35)).heap.size ((w.alloc (.cells #[.slice none 0 0, .int .i64 0, .slice none 0 0] 29)).alloc (.cells #[.int .i64 0, .bool false, .int .i64 0] 35)) W) := fun W hW => hW.below HBA3.out HBA3.out.size (by simp; omega)
    have HWW : Hid (Below w.heap.size w ((w.alloc (.cells #[.slice none 0 0, .int .i64 0, .slice none 0 0] 29)).alloc (.cells #[.int .i64 0, .bool false, .int .i64 0] 35))) := (HB.out _).alloc (by simp) _
    have HPF : Hid (∀ W j, blkS (vn : Int) 0 (ws.drop 4) [] [] none = ([], 0, .text j) → Below w.heap.size w W → RRFPost w n R0 (.returned (.tuple #[.agg #[.slice none 0 0, .int .i64 0, .slice none 0 0], .agg #[.int .i64 101, .bool true, .int .i64 (posL ws (4 + j) n)]])) W) := fun W j hR hb => by
      have h0 := HR0.out
      rw [hR] at h0
      rw [← h0, ← posL_drop]
      exact ⟨⟨_, _, rfl, BRow.nil _ _, CRow.nil _ _⟩, hb⟩
    have HBLK0 := Lib.hid (rfl : blkS (vn : Int) 0 (ws.drop 4) [] [] none = blkS (vn : Int) 0 (ws.drop 4) [] [] none)
    have hFault : fltV ws n (.text 0) = fltV ws n (.text 0) := rfl
    clear hFault
    have HXT : Hid (∀ j, fltV ws n (.text j) = .agg #[.int .i64 101, .bool true, .int .i64 (posL ws j n)]) := fun j => rfl
    have HXT2 := Lib.hid (fun (k : Nat) W hW => show Calls Tryz.prog 29 #[.slice (some ⟨g, 0, none⟩) ws.length c, .int .i64 (k : Int), .int .i64 (n : Int)] W fun r w' => r = .returned (.agg #[.int .i64 101, .bool true, .int .i64 (posL ws k n)]) ∧ Below W.heap.size W w' from by rw [← HXT.out k]; exact HTX.out k W hW)
    clear HTX HXT
    generalize hN : ws.length = N at *
    have HN := Lib.hid hN; clear hN
    have hsz3 : W3.heap.size = w2.heap.size + 2 := hW3s
    clear hW3s
    generalize hp : w2.heap.size = p at *
    clear hp
    go_loopg [9, 10, 11, 12, 13] (N - 4) (fun gh sv iv _ _ _ wr => ∃ (i j : Nat) (met : List Int) (dn : List Blk) (fl : List Value) (ov : Value), i ≤ N ∧ gh = N - i ∧ iv = .int .i64 (i : Int) ∧ Hid (i = 4 + j) ∧ FmG wr (p + 2) 0 ov sv (.slice none 0 0) dn fl met [] ∧ wr.cell? ⟨p + 1, 0, none⟩ = some ov ∧ wr.cell? ⟨p + 1, 1, none⟩ = some (.int .i64 0) ∧ wr.cell? ⟨p + 1, 2, none⟩ = some (.slice none 0 0) ∧ (∀ k, wr.frozen? ⟨p + 1, k, none⟩ = false) ∧ Only (p + 1) W3 wr ∧ (∀ y ∈ met, 1 ≤ y) ∧ dn.length ≤ i ∧ met.length ≤ i ∧ Hid (blkS (vn : Int) j ((ws.drop 4).drop j) met dn none = blkS (vn : Int) 0 (ws.drop 4) [] [] none))
    case atStart => exact ⟨4, 0, [], [], [], _, by omega, rfl, rfl, rfl, FmG.start _ _ _ (by omega), hQc.1, hQc.2.1, hQc.2.2, hQf, Only.refl _ _, by simp, Nat.zero_le _, Nat.zero_le _, rfl⟩
    case round =>
      obtain ⟨i, j, met, dn, fl, ov, hj, rfl, rfl, HIJ, hfm, hq0, hq1, hq2, hqf, hor, hmet, hdl, hml, HQ⟩ := hrel
      have HFM := Lib.hid hfm; clear hfm
      have HOR := Lib.hid hor; clear hor
      have HMET := Lib.hid hmet; clear hmet
      obtain ⟨a9, c9, rfl, _, hcs2⟩ := own_shape HFM.out.seen
      obtain ⟨ao, co, rfl, _, hco2⟩ := own_shape2 HFM.out.out
      unfold maxLen at hcs2 hco2
      have hwr := HWO.out.only HOR.out (by omega)
      have HWR := Lib.hid hwr; clear hwr
      (try go_upto_region 10 with fail)
      go_cut [61] (fun t w4 => t = .bool (decide (i < N) && isBlk (ws.getD i wd0)) ∧ w4 = wr)
      case first =>
        by_cases hlt : i < N
        · have hil : i < ws.length := by rw [HN.out]; exact hlt
          have t1 : wr.cell? ⟨g, i * 3, none⟩ = some (.string (strOfNums (ws.getD i wd0).1)) := by have := HWR.out.text i hil; rwa [Nat.zero_add] at this
          have t3 : wr.cell? ⟨g, i * 3 + 2, none⟩ = some (.bool (ws.getD i wd0).2.2) := by have := HWR.out.fst i hil; rwa [Nat.zero_add] at this
          have hbt : Bts (ws.getD i wd0).1 := (HOKW.out.at hil).2.1
          have HBV : Hid (∀ r, isBlk (ws.getD i wd0) = r → Value.bool r = .bool (decide (i < N) && isBlk (ws.getD i wd0))) := fun r h => by rw [h]; simp [hlt]
          have HIB : Hid (isBlk (ws.getD i wd0) = ((ws.getD i wd0).2.2 && ((ws.getD i wd0).1 == [97] || (ws.getD i wd0).1 == [101]))) := rfl
          clear hil
          generalize (ws.getD i wd0).2.2 = fs at *
          generalize (ws.getD i wd0).1 = xt at *
          cases fs with
          | false =>
            have HV := Lib.hid (HBV.out false (by rw [HIB.out]; rfl))
            clear hbt HBV HIB
            generalize strOfNums xt = sx at *
            go_wp2_with fail
            go_meet
            exact ⟨HV.out, rfl⟩
          | true =>
            by_cases ha : xt = [97]
            · subst ha
              have HV := Lib.hid (HBV.out true (by rw [HIB.out]; rfl))
              rw [show strOfNums [97] = ⟨#[97]⟩ from rfl] at t1
              clear hbt HBV HIB
              go_wp2_with fail
              go_meet
              exact ⟨HV.out, rfl⟩
            · have hne := str_ne (ys := [97]) hbt (by intro x hx; simp at hx; omega) ha
              rw [show (strOfNums [97]).toList = [97] from by rw [str_toList]; rfl] at hne
              by_cases he : xt = [101]
              · subst he
                have HV := Lib.hid (HBV.out true (by rw [HIB.out]; rfl))
                rw [show strOfNums [101] = ⟨#[101]⟩ from rfl] at t1 hne
                clear hbt HBV HIB
                go_wp2_with fail
                go_meet
                exact ⟨HV.out, rfl⟩
              · have hne2 := str_ne (ys := [101]) hbt (by intro x hx; simp at hx; omega) he
                rw [show (strOfNums [101]).toList = [101] from by rw [str_toList]; rfl] at hne2
                have HV := Lib.hid (HBV.out false (by rw [HIB.out]; simp [ha, he]))
                clear hbt HBV HIB ha he
                generalize strOfNums xt = sx at *
                go_wp2_with fail
                go_meet
                exact ⟨HV.out, rfl⟩
        · have HV := Lib.hid (show Value.bool false = .bool (decide (i < N) && isBlk (ws.getD i wd0)) by simp [hlt])
          have hlb : decide ((i : Int) < N) = false := by simp; omega
          go_wp2_with fail
          go_meet
          exact ⟨HV.out, rfl⟩
      case rest =>
        obtain ⟨rfl, hw4⟩ := hcut
        subst hw4
        obtain ⟨wr, rfl⟩ : ∃ w3 : World, w3 = wc := ⟨_, rfl⟩
        cases htst : (decide (i < N) && isBlk (ws.getD i wd0)) with
        | false =>
          have hR : blkS (vn : Int) 0 (ws.drop 4) [] [] none = (dn, j, .ok) := by
            rw [← HQ.out]
            by_cases hlt : i < N
            · refine bs_stop (by rw [HUL.out]; have := HIJ.out; omega) ?_
              rw [HU.out, ← HIJ.out]
              simpa [hlt] using htst
            · exact bs_end (by rw [HUL.out]; have := HIJ.out; omega)
          clear HQ htst HPF HXT2
          have HR1 : Hid ((clausesL (vn : Int) n2 0 ((ws.drop 4).drop j) [] []).2.isOk = false → R0 = (0, [], [], (ws.drop 4).drop j, (clausesL (vn : Int) n2 0 ((ws.drop 4).drop j) [] []).2)) := fun h => by
            have h0 := HR0.out
            rw [hR] at h0
            dsimp only at h0
            rw [if_pos (show Flt.ok.isOk = true from rfl), if_neg (by rw [h]; simp)] at h0
            exact h0.symm
          have HR2 : Hid ((clausesL (vn : Int) n2 0 ((ws.drop 4).drop j) [] []).2.isOk = true → R0 = ((vn : Int), dn, (clausesL (vn : Int) n2 0 ((ws.drop 4).drop j) [] []).1, [], .ok)) := fun h => by
            have h0 := HR0.out
            rw [hR] at h0
            dsimp only at h0
            rw [if_pos (show Flt.ok.isOk = true from rfl), if_pos h] at h0
            exact h0.symm
          have hcut : ∀ a' c', N - i ≤ c' → c' ≤ 9223372036854775807 → (a' = some ⟨g, i * 3, none⟩ ∨ N ≤ i) → WRowO wr (.slice a' (N - i) c') ((ws.drop 4).drop j) := fun a' c' h1 h2 h3 => by
            have := wrowO_cut (n := N) (.inr HWR.out) HN.out i a' c' h1 h2 (by rw [Nat.zero_add]; exact h3)
            rw [List.drop_drop, ← HIJ.out]
            exact this
          have HCUT := Lib.hid hcut; clear hcut
          have HFD := Lib.hid (show fltV ((ws.drop 4).drop j) n (clausesL (vn : Int) n2 0 ((ws.drop 4).drop j) [] []).2 = .agg #[.int .i64 (clausesL (vn : Int) n2 0 ((ws.drop 4).drop j) [] []).2.code, .bool (clausesL (vn : Int) n2 0 ((ws.drop 4).drop j) [] []).2.placed, .int .i64 ((clausesL (vn : Int) n2 0 ((ws.drop 4).drop j) [] []).2.pos ((ws.drop 4).drop j) n)] from rfl)
          have HCK := Lib.hid (fun u W h => HCJ.out u W j h)
          rw [HFD.out] at HCK
          clear HCJ HR0 hR
          generalize hU : (ws.drop 4).drop j = U at *
          clear hU
          have HFW : Hid (∀ q v, W3.cell? ⟨p, q, none⟩ = some v → wr.cell? ⟨p, q, none⟩ = some v) := fun q v h => HOR.out.cell h (by omega)
          have hf0 := HFW.out _ _ HFC.out.1.1
          have hf1 := HFW.out _ _ HFC.out.1.2.1
          have hf2 := HFW.out _ _ HFC.out.1.2.2
          have hff : ∀ q, wr.frozen? ⟨p, q, none⟩ = false := fun q => HOR.out.froz (by omega) (HFC.out.2 q) (by omega)
          have hwrs := HOR.out.size
          have hr9 := HRES.out _ HOR.out
          have HBL := Lib.hid HFM.out.blocks
          have HSET : Hid (∀ W v (l : List Blk), BRow W (p + 2) v l → ∀ q o u, q < p + 2 → BRow (W.setCell ⟨q, o, none⟩ u) (p + 2) v l) := fun W v l h q o u hq => h.set q o u hq
          generalize clausesL (vn : Int) n2 0 U [] [] = C at *
          obtain ⟨out, f⟩ := C
          dsimp only at HR1 HR2 HCK HFD
          have hbw0 := HWW.out
          cases hk : f.isOk with
          | false =>
            have hR0 := HR1.out hk
            have hcd : (f.code != 0) = true := by rw [code_zero, hk]; rfl
            have HPO : Hid (∀ W, Below w.heap.size w W → RRFPost w n R0 (.returned (.tuple #[.agg #[.slice none 0 0, .int .i64 0, .slice none 0 0], .agg #[.int .i64 f.code, .bool f.placed, .int .i64 (f.pos U n)]])) W) := fun W hW => by
              rw [hR0]
              exact ⟨⟨_, _, rfl, BRow.nil _ _, CRow.nil _ _⟩, hW⟩
            clear HR1 HR2 hR0 hk HFD
            generalize f.pos U n = fp at *
            generalize f.placed = fl2 at *
            generalize f.code = fc at *
            by_cases hci : c = i
            all_goals
              go_wp2_with (go_at_call 32; refine (HCK.out _ _ (HCUT.out _ _ (by omega) (by omega) (by first | exact .inl rfl | exact .inr (by omega)))).mono ?_; rintro e5 w5 ⟨⟨cv, rfl, hC⟩, hb5⟩; have hr5 := hr9.trans (hb5.mono hr9.size); obtain ⟨r1, r2, r3, r4, r5, r6, r7, r8⟩ := resWF hr5; have hbw5 := hbw0.trans (hr5.mono hbw0.size); have s0 := (hb5.cell (p := ⟨p, 0, none⟩) (show p < _ by omega)).trans hf0; have s1 := (hb5.cell (p := ⟨p, 1, none⟩) (show p < _ by omega)).trans hf1; have s2 := (hb5.cell (p := ⟨p, 2, none⟩) (show p < _ by omega)).trans hf2; have sf : ∀ q, w5.frozen? ⟨p, q, none⟩ = false := fun q => (hb5.frozen (p := ⟨p, q, none⟩) (show p < _ by omega)).trans (hff q); obtain ⟨a8, c8, rfl, _⟩ := hC.rows)
              have q1 : ¬ w.heap.size = p := by omega
              have q2 : ¬ w.heap.size + 1 = p := by omega
              have q3 : ¬ p = w.heap.size := by omega
              have q4 : ¬ p = w.heap.size + 1 := by omega
              go_region
              go_wp2
              exact bodyPost_ret (v := .tuple #[.agg #[.slice none 0 0, .int .i64 0, .slice none 0 0], .agg #[.int .i64 fc, .bool fl2, .int .i64 fp]]) (by simp [results, Tryz.results8, go_sem, r1, r2, r3, r4, r5, r6]) rfl (HPO.out _ ((((((((((hbw5.setCell (by simp; omega) _).setCell (by simp; omega) _).setCell (by simp; omega) _).setCell (Nat.le_refl _) _).setCell (Nat.le_refl _) _).setCell (Nat.le_refl _) _).setCell (by simp) _).setCell (by simp) _).setCell (by simp) _).drew))
          | true =>
            have hR0 := HR2.out hk
            obtain rfl : f = .ok := (isOk_iff f).1 hk
            have HPO : Hid (∀ W bv cv, Below w.heap.size w W → BRow W (w.heap.size + 1) bv dn → CRow W (w.heap.size + 1) cv out → RRFPost w n R0 (.returned (.tuple #[.agg #[bv, .int .i64 (vn : Int), cv], .agg #[.int .i64 0, .bool false, .int .i64 0]])) W) := fun W bv cv hW h1 h2 => by
              rw [hR0]
              exact ⟨⟨_, _, rfl, h1, h2⟩, hW⟩
            simp only [Flt.code, Flt.placed, Flt.pos] at HCK
            clear HR1 HR2 hR0 hk HFD HSET
            by_cases hci : c = i
            all_goals
              go_wp2_with (go_at_call 32; refine (HCK.out _ _ (HCUT.out _ _ (by omega) (by omega) (by first | exact .inl rfl | exact .inr (by omega)))).mono ?_; rintro e5 w5 ⟨⟨cv, rfl, hC⟩, hb5⟩; have hr5 := hr9.trans (hb5.mono hr9.size); obtain ⟨r1, r2, r3, r4, r5, r6, r7, r8⟩ := resWF hr5; have hbw5 := hbw0.trans (hr5.mono hbw0.size); have s0 := (hb5.cell (p := ⟨p, 0, none⟩) (show p < _ by omega)).trans hf0; have s1 := (hb5.cell (p := ⟨p, 1, none⟩) (show p < _ by omega)).trans hf1; have s2 := (hb5.cell (p := ⟨p, 2, none⟩) (show p < _ by omega)).trans hf2; have sf : ∀ q, w5.frozen? ⟨p, q, none⟩ = false := fun q => (hb5.frozen (p := ⟨p, q, none⟩) (show p < _ by omega)).trans (hff q); have u0 := (hb5.cell (p := ⟨p + 1, 0, none⟩) (show p + 1 < _ by omega)).trans hq0; have u1 := (hb5.cell (p := ⟨p + 1, 1, none⟩) (show p + 1 < _ by omega)).trans hq1; have u2 := (hb5.cell (p := ⟨p + 1, 2, none⟩) (show p + 1 < _ by omega)).trans hq2; have uf : ∀ q, w5.frozen? ⟨p + 1, q, none⟩ = false := fun q => (hb5.frozen (p := ⟨p + 1, q, none⟩) (show p + 1 < _ by omega)).trans (hqf q); obtain ⟨a8, c8, rfl, _⟩ := hC.rows; have q1 : ¬ w.heap.size = p := (by omega); have q2 : ¬ w.heap.size + 1 = p := (by omega); have q3 : ¬ p = w.heap.size := (by omega); have q4 : ¬ p = w.heap.size + 1 := (by omega); have q5 : ¬ w.heap.size = p + 1 := (by omega); have q6 : ¬ w.heap.size + 1 = p + 1 := (by omega); have q7 : ¬ p + 1 = w.heap.size := (by omega); have q8 : ¬ p + 1 = w.heap.size + 1 := (by omega))
              go_region
              go_wp2
              have hs5 := hb5.size
              have hB5 : BRow w5 (p + 2) (.slice ao dn.length co) dn := ⟨fl, HBL.out.keep hb5⟩
              have hBf := (((((((((((hB5.set (p) 0 (.int .i64 0) (by omega)).set (p) 1 (.bool false) (by omega)).set (p) 2 (.int .i64 0) (by omega)).set (p + 1) 1 (.int .i64 (vn : Int)) (by omega)).set (p + 1) 2 (.slice a8 out.length c8) (by omega)).set (w.heap.size) 0 (.slice ao dn.length co) (by omega)).set (w.heap.size) 1 (.int .i64 (vn : Int)) (by omega)).set (w.heap.size) 2 (.slice a8 out.length c8) (by omega)).set (w.heap.size + 1) 0 (.int .i64 0) (by omega)).set (w.heap.size + 1) 1 (.bool false) (by omega)).set (w.heap.size + 1) 2 (.int .i64 0) (by omega)).mono (show w.heap.size + 1 ≤ p + 2 by omega)
              have hCf := (((((((((((hC.set (p) 0 (.int .i64 0) (by omega)).set (p) 1 (.bool false) (by omega)).set (p) 2 (.int .i64 0) (by omega)).set (p + 1) 1 (.int .i64 (vn : Int)) (by omega)).set (p + 1) 2 (.slice a8 out.length c8) (by omega)).set (w.heap.size) 0 (.slice ao dn.length co) (by omega)).set (w.heap.size) 1 (.int .i64 (vn : Int)) (by omega)).set (w.heap.size) 2 (.slice a8 out.length c8) (by omega)).set (w.heap.size + 1) 0 (.int .i64 0) (by omega)).set (w.heap.size + 1) 1 (.bool false) (by omega)).set (w.heap.size + 1) 2 (.int .i64 0) (by omega)).mono (show w.heap.size + 1 ≤ _ by omega)
              exact bodyPost_ret (v := .tuple #[.agg #[.slice ao dn.length co, .int .i64 (vn : Int), .slice a8 out.length c8], .agg #[.int .i64 0, .bool false, .int .i64 0]]) (by simp [results, Tryz.results8, go_sem, r1, r2, r3, r4, r5, r6]) rfl (HPO.out _ _ _ ((((((((((((hbw5.setCell (by simp; omega) _).setCell (by simp; omega) _).setCell (by simp; omega) _).setCell (by simp; omega) _).setCell (by simp; omega) _).setCell (Nat.le_refl _) _).setCell (Nat.le_refl _) _).setCell (Nat.le_refl _) _).setCell (by simp) _).setCell (by simp) _).setCell (by simp) _).drew) (hBf.keep (Below.refl _ _).drew) (hCf.keep (Below.refl _ _).drew))
        | true =>
          simp only [Bool.and_eq_true, decide_eq_true_eq] at htst
          obtain ⟨hlt, hib⟩ := htst
          have hil : i < ws.length := by rw [HN.out]; exact hlt
          have t1 : wr.cell? ⟨g, i * 3, none⟩ = some (.string (strOfNums (ws.getD i wd0).1)) := by have := HWR.out.text i hil; rwa [Nat.zero_add] at this
          have HQB := Lib.hid (bs_open (vars := (vn : Int)) (ws := ws.drop 4) (i := j) (met := met) (done := dn) (by rw [HUL.out]; have := HIJ.out; omega) (by rw [HU.out, ← HIJ.out]; exact hib))
          have hsx : ∃ (sx : ByteArray) (ex : Bool), strOfNums (ws.getD i wd0).1 = sx ∧ exB ((ws.drop 4).getD j wd0) = ex ∧ (sx.toList == [101]) = ex := by
            rw [HU.out, ← HIJ.out]
            refine ⟨_, _, rfl, rfl, ?_⟩
            rcases isBlk_two hib with h | h
            · unfold exB; rw [h, str_toList]; rfl
            · unfold exB; rw [h, str_toList]; rfl
          obtain ⟨sx, ex, hs1, hs2, hs3⟩ := hsx
          rw [hs1] at t1
          rw [hs2] at HQB
          have HQ2 := Lib.hid (HQB.out.symm.trans HQ.out)
          clear hs1 hs2 hib hil HQB HQ
          have hX : p + 2 ≤ wr.heap.size := by have := HOR.out.size; omega
          have hwx : Below wr.heap.size wr (wr.alloc (.cells #[.bool ex, .slice none 0 0] 51)) := (Below.refl _ _).alloc (Nat.le_refl _) _
          have hfx := HFM.out.fresh hwx (by simp)
          have hxc := cells2 wr _ _ _ _ (Below.refl _ (wr.alloc (.cells #[.bool ex, .slice none 0 0] 51)))
          have hxf : ∀ k, (wr.alloc (.cells #[.bool ex, .slice none 0 0] 51)).frozen? ⟨wr.heap.size, k, none⟩ = false := fun k => World.frozen?_alloc_at _ _ _ _ (by simp)
          have hq0x := (hwx.cell (p := ⟨p + 1, 0, none⟩) (by show p + 1 < _; omega)).trans hq0
          have hq1x := (hwx.cell (p := ⟨p + 1, 1, none⟩) (by show p + 1 < _; omega)).trans hq1
          have hq2x := (hwx.cell (p := ⟨p + 1, 2, none⟩) (by show p + 1 < _; omega)).trans hq2
          have hqfx : ∀ k, (wr.alloc (.cells #[.bool ex, .slice none 0 0] 51)).frozen? ⟨p + 1, k, none⟩ = false := fun k => (hwx.frozen (p := ⟨p + 1, k, none⟩) (by show p + 1 < _; omega)).trans (hqf k)
          have horx := HOR.out.andThen (hwx.mono (by omega))
          have HX0 := Lib.hid (And.intro hfx (And.intro hxc (And.intro hxf (And.intro hq0x (And.intro hq1x (And.intro hq2x (And.intro hqfx horx)))))))
          clear hfx hxc hxf hq0x hq1x hq2x hqfx horx hwx hq0 hq1 hq2 hqf HFM HOR
          go_upto_block 3 with fail
          go_wp2_with fail
          obtain ⟨hfx, hxc, hxf, hq0x, hq1x, hq2x, hqfx, horx⟩ := HX0.out
          clear HX0 hs3 t1
          generalize wr.alloc (.cells #[.bool ex, .slice none 0 0] 51) = wx at *
          generalize wr.heap.size = X at *
          go_loopg [9, 10, 12, 13] (N - (i + 1)) (fun gh sv iv _ _ wr2 => ∃ (k j2 : Nat) (met2 cur : List Int) (xv : Value), k ≤ N ∧ gh = N - k ∧ iv = .int .i64 (k : Int) ∧ Hid (k = 4 + j2) ∧ FmG wr2 (p + 2) X (.slice ao dn.length co) sv xv dn fl met2 cur ∧ wr2.cell? ⟨X, 0, none⟩ = some (.bool ex) ∧ wr2.cell? ⟨X, 1, none⟩ = some xv ∧ (∀ q, wr2.frozen? ⟨X, q, none⟩ = false) ∧ wr2.cell? ⟨p + 1, 0, none⟩ = some (.slice ao dn.length co) ∧ wr2.cell? ⟨p + 1, 1, none⟩ = some (.int .i64 0) ∧ wr2.cell? ⟨p + 1, 2, none⟩ = some (.slice none 0 0) ∧ (∀ q, wr2.frozen? ⟨p + 1, q, none⟩ = false) ∧ Only (p + 1) W3 wr2 ∧ (∀ y ∈ met2, 1 ≤ y) ∧ i < k ∧ cur.length ≤ k ∧ met2.length ≤ k ∧ Hid (blkS (vn : Int) j2 ((ws.drop 4).drop j2) met2 dn (some (ex, cur)) = blkS (vn : Int) 0 (ws.drop 4) [] [] none))
          case atStart => exact ⟨i + 1, j + 1, met, [], _, by omega, rfl, by go_num, by have := HIJ.out; unfold Hid; omega, hfx, hxc.1, hxc.2, hxf, hq0x, hq1x, hq2x, hqfx, horx, HMET.out, by omega, Nat.zero_le _, by omega, HQ2.out⟩
          case round =>
            obtain ⟨k, j2, met2, cur, xv, hk, rfl, rfl, HKJ, hf2, hx0, hx1, hxf2, hq0, hq1, hq2, hqf, hor2, hmet2, hik, hcl2, hml2, HQ3⟩ := hrel
            clear hfx hxc hxf hq0x hq1x hq2x hqfx horx
            have HF2 := Lib.hid hf2; clear hf2
            have HO2 := Lib.hid hor2; clear hor2
            have HM2 := Lib.hid hmet2; clear hmet2
            obtain ⟨a7, c7, rfl, _, hc72⟩ := own_shape HF2.out.seen
            obtain ⟨ax, cx, rfl, _, hcx2⟩ := own_shape HF2.out.cur
            unfold maxLen at hc72 hcx2
            have HQW := Lib.hid (And.intro hq0 (And.intro hq1 (And.intro hq2 hqf))); clear hq0 hq1 hq2 hqf
            have HXW := Lib.hid (And.intro hx0 (And.intro hx1 hxf2)); clear hx0 hx1 hxf2
            have HPFJ := Lib.hid (fun W (h : blkS (vn : Int) 0 (ws.drop 4) [] [] none = ([], 0, .text j2)) hb => HPF.out W j2 h hb)
            rw [← HKJ.out] at HPFJ
            have HTK := Lib.hid (HXT2.out k)
            have HUK : Hid (txt (ws.drop 4) j2 = txt ws k) := by unfold Hid txt; rw [HU.out, ← HKJ.out]
            generalize posL ws k n = ps at *
            have hszr := HO2.out.size
            by_cases hkn : k < N
            · have hkl : k < ws.length := by rw [HN.out]; exact hkn
              have hj2 : j2 < (ws.drop 4).length := by rw [HUL.out]; have := HKJ.out; omega
              have t1 : wr.cell? ⟨g, k * 3, none⟩ = some (.string (strOfNums (txt ws k))) := by have := (HWO.out.only HO2.out (by omega)).text k hkl; rwa [Nat.zero_add] at this
              obtain ⟨x1, x2, x3⟩ := HOKW.out.at hkl
              have HNUM := Lib.hid (fun W => refNum_any (txt ws k) W x2 x3)
              unfold NumPost at HNUM
              have HNB := Lib.hid (fun l (h : numL (txt ws k) = some l) => numL_bd h)
              rw [← HUK.out] at HNUM HNB t1
              have HNONE := Lib.hid (fun (h : numL (txt (ws.drop 4) j2) = none) => bi_none (vars := (vn : Int)) (met := met2) (done := dn) (c := (ex, cur)) hj2 h)
              have HZERO := Lib.hid (fun (h : numL (txt (ws.drop 4) j2) = some 0) => bi_zero (vars := (vn : Int)) (met := met2) (done := dn) (c := (ex, cur)) hj2 h)
              have HMORE := Lib.hid (fun l (h : numL (txt (ws.drop 4) j2) = some l) => bi_more (vars := (vn : Int)) (met := met2) (done := dn) (c := (ex, cur)) hj2 h)
              have HBAD := Lib.hid (fun l (h : numL (txt (ws.drop 4) j2) = some l) => bi_bad (vars := (vn : Int)) (met := met2) (done := dn) (c := (ex, cur)) hj2 h)
              clear hkl hj2 x1 x2 x3
              generalize txt (ws.drop 4) j2 = xs at *
              generalize strOfNums xs = sx at *
              have hkc : decide ((N : Int) ≤ (k : Int)) = false := by simp; omega
              have hkd : (k : Int) < N := by omega
              cases hnum : numL xs with
              | none =>
                rw [hnum] at HNUM
                have HE := Lib.hid (HQ3.out.symm.trans (HNONE.out hnum))
                clear hnum HNONE HZERO HMORE HBAD HQ3 HNB
                go_wp2_with (first
                  | (go_at_call 30; refine (HNUM.out _).mono ?_; rintro e2 wn ⟨rfl, hbn⟩; have hon := HO2.out.trans (Only.of_below hbn))
                  | (go_at_call 29; refine (HTK.out _ (HRWO.out _ hon)).mono ?_; rintro e3 w9 ⟨rfl, hb9⟩; have hr9 := (HRES.out _ hon).trans (hb9.mono (HRES.out _ hon).size); obtain ⟨r1, r2, r3, r4, r5, r6, r7, r8⟩ := resWF hr9))
                have hbw9 := HWW.out.trans (hr9.mono HWW.out.size)
                exact bodyPost_ret (v := .tuple #[.agg #[.slice none 0 0, .int .i64 0, .slice none 0 0], .agg #[.int .i64 101, .bool true, .int .i64 ps]]) (by simp [results, Tryz.results8, go_sem, r1, r2, r3, r4, r5, r6]) rfl (HPFJ.out _ HE.out ((((((hbw9.setCell (Nat.le_refl _) _).setCell (Nat.le_refl _) _).setCell (Nat.le_refl _) _).setCell (by simp) _).setCell (by simp) _).setCell (by simp) _))
              | some l =>
                have hlb := HNB.out l hnum
                rw [hnum] at HNUM
                by_cases hl0 : l < 0
                · have hl0b : decide (l < 0) = true := by simpa using hl0
                  have HE := Lib.hid (HQ3.out.symm.trans (HBAD.out l hnum (by omega) (by unfold okV; simp; omega)))
                  clear hnum HNONE HZERO HMORE HBAD HQ3 HNB
                  go_wp2_with (first
                    | (go_at_call 30; refine (HNUM.out _).mono ?_; rintro e2 wn ⟨rfl, hbn⟩; have hon := HO2.out.trans (Only.of_below hbn))
                    | (go_at_call 29; refine (HTK.out _ (HRWO.out _ hon)).mono ?_; rintro e3 w9 ⟨rfl, hb9⟩; have hr9 := (HRES.out _ hon).trans (hb9.mono (HRES.out _ hon).size); obtain ⟨r1, r2, r3, r4, r5, r6, r7, r8⟩ := resWF hr9))
                  have hbw9 := HWW.out.trans (hr9.mono HWW.out.size)
                  exact bodyPost_ret (v := .tuple #[.agg #[.slice none 0 0, .int .i64 0, .slice none 0 0], .agg #[.int .i64 101, .bool true, .int .i64 ps]]) (by simp [results, Tryz.results8, go_sem, r1, r2, r3, r4, r5, r6]) rfl (HPFJ.out _ HE.out ((((((hbw9.setCell (Nat.le_refl _) _).setCell (Nat.le_refl _) _).setCell (Nat.le_refl _) _).setCell (by simp) _).setCell (by simp) _).setCell (by simp) _))
                have hl0b : decide (l < 0) = false := by simpa using hl0
                by_cases hlv : (vn : Int) < l
                · have hlvb : decide ((vn : Int) < l) = true := by simpa using hlv
                  have HE := Lib.hid (HQ3.out.symm.trans (HBAD.out l hnum (by omega) (by unfold okV; simp; omega)))
                  clear hnum HNONE HZERO HMORE HBAD HQ3 HNB
                  go_wp2_with (first
                    | (go_at_call 30; refine (HNUM.out _).mono ?_; rintro e2 wn ⟨rfl, hbn⟩; have hon := HO2.out.trans (Only.of_below hbn))
                    | (go_at_call 29; refine (HTK.out _ (HRWO.out _ hon)).mono ?_; rintro e3 w9 ⟨rfl, hb9⟩; have hr9 := (HRES.out _ hon).trans (hb9.mono (HRES.out _ hon).size); obtain ⟨r1, r2, r3, r4, r5, r6, r7, r8⟩ := resWF hr9))
                  have hbw9 := HWW.out.trans (hr9.mono HWW.out.size)
                  exact bodyPost_ret (v := .tuple #[.agg #[.slice none 0 0, .int .i64 0, .slice none 0 0], .agg #[.int .i64 101, .bool true, .int .i64 ps]]) (by simp [results, Tryz.results8, go_sem, r1, r2, r3, r4, r5, r6]) rfl (HPFJ.out _ HE.out ((((((hbw9.setCell (Nat.le_refl _) _).setCell (Nat.le_refl _) _).setCell (Nat.le_refl _) _).setCell (by simp) _).setCell (by simp) _).setCell (by simp) _))
                have hlvb : decide ((vn : Int) < l) = false := by simpa using hlv
                have HHAS := Lib.hid (fun W h => has_any (.slice a7 met2.length c7) met2 l W h)
                by_cases hin : l ∈ met2
                · have hl1 := HM2.out l hin
                  rw [show decide (l ∈ met2) = true by simpa using hin] at HHAS
                  have HE := Lib.hid (HQ3.out.symm.trans (HBAD.out l hnum (by omega) (by rw [okV_has _ _ _ hl1]; simp [hin])))
                  clear hnum HNONE HZERO HMORE HBAD HQ3 HNB hin
                  go_wp2_with (first
                    | (go_at_call 30; refine (HNUM.out _).mono ?_; rintro e2 wn ⟨rfl, hbn⟩; have hon := HO2.out.trans (Only.of_below hbn))
                    | (go_at_call 31; refine (HHAS.out _ (own_row (own_keep HF2.out.seen hbn))).mono ?_; rintro e4 w' ⟨rfl, rfl⟩)
                    | (go_at_call 29; refine (HTK.out _ (HRWO.out _ hon)).mono ?_; rintro e3 w9 ⟨rfl, hb9⟩; have hr9 := (HRES.out _ hon).trans (hb9.mono (HRES.out _ hon).size); obtain ⟨r1, r2, r3, r4, r5, r6, r7, r8⟩ := resWF hr9))
                  have hbw9 := HWW.out.trans (hr9.mono HWW.out.size)
                  exact bodyPost_ret (v := .tuple #[.agg #[.slice none 0 0, .int .i64 0, .slice none 0 0], .agg #[.int .i64 101, .bool true, .int .i64 ps]]) (by simp [results, Tryz.results8, go_sem, r1, r2, r3, r4, r5, r6]) rfl (HPFJ.out _ HE.out ((((((hbw9.setCell (Nat.le_refl _) _).setCell (Nat.le_refl _) _).setCell (Nat.le_refl _) _).setCell (by simp) _).setCell (by simp) _).setCell (by simp) _))
                rw [show decide (l ∈ met2) = false by simpa using hin] at HHAS
                by_cases hlz : l = 0
                · subst hlz
                  have HQ4 := Lib.hid ((HZERO.out hnum).symm.trans HQ3.out)
                  clear hnum HNONE HZERO HMORE HBAD HQ3 HNB hin HTK HPFJ
                  go_wp2_with (first
                    | (go_at_call 30; refine (HNUM.out _).mono ?_; rintro e2 wn ⟨rfl, hbn⟩; have hon := HO2.out.trans (Only.of_below hbn); have hfn := HF2.out.keep hbn; have hsn := hon.size; have hX9 := HF2.out.xlt; have hx0n := (hbn.cell (p := ⟨X, 0, none⟩) hX9).trans HXW.out.1; have hx1n := (hbn.cell (p := ⟨X, 1, none⟩) hX9).trans HXW.out.2.1; have hq0n := (hbn.cell (p := ⟨p + 1, 0, none⟩) (show p + 1 < _ by omega)).trans HQW.out.1; have hq1n := (hbn.cell (p := ⟨p + 1, 1, none⟩) (show p + 1 < _ by omega)).trans HQW.out.2.1; have hq2n := (hbn.cell (p := ⟨p + 1, 2, none⟩) (show p + 1 < _ by omega)).trans HQW.out.2.2.1; have hqfn : ∀ q, wn.frozen? ⟨p + 1, q, none⟩ = false := fun q => (hbn.frozen (p := ⟨p + 1, q, none⟩) (show p + 1 < _ by omega)).trans (HQW.out.2.2.2 q))
                    | (go_at_call 31; refine (HHAS.out _ (own_row (own_keep HF2.out.seen hbn))).mono ?_; rintro e4 w' ⟨rfl, rfl⟩)
                    | (at_builtin; refine wpList_appS 24 51 _ 2 32 Tryz.underlying24 infoBlk rfl (by decide) (by decide) rfl _ _ rfl wn (p + 2) _ dn.length fl [.bool ex, .slice ax cur.length cx] (by intro y hy; simp at hy; rcases hy with rfl | rfl <;> rfl) rfl hfn.out (by omega) (by omega) _ rfl rfl rfl ?_; intro o5 w5 hown5 hap5; obtain ⟨a5, c5, rfl, _, _⟩ := own_shape2 hown5; have hq05 := (hap5.below.cell (p := ⟨p + 1, 0, none⟩) (Nat.lt_succ_self _)).trans hq0n; have hq15 := (hap5.below.cell (p := ⟨p + 1, 1, none⟩) (Nat.lt_succ_self _)).trans hq1n; have hq25 := (hap5.below.cell (p := ⟨p + 1, 2, none⟩) (Nat.lt_succ_self _)).trans hq2n; have hqf5 : ∀ q, w5.frozen? ⟨p + 1, q, none⟩ = false := fun q => (hap5.below.frozen (p := ⟨p + 1, q, none⟩) (Nat.lt_succ_self _)).trans (hqfn q); have hqf50 := hqf5 0))
                  go_roundg (N - (k + 1))
                  case measure => omega
                  case rel =>
                    have hs5 := hap5.below.size
                    refine ⟨k + 1, j2 + 1, met2, dn ++ [(ex, cur)], fl ++ [.bool ex, .slice ax cur.length cx], _, by omega, rfl, by go_num, by have := HKJ.out; unfold Hid; omega, ((hfn.push hap5 hown5).only (Only.setCell w5 (p + 1) 0 _) (.inl (Nat.lt_succ_self _))).reX (by omega) (by simp [World.setCell]; omega), World.cell?_setCell_same _ _ _ hq05, ?_, ?_, fun q => (World.frozen?_setCell _ _ _ _).trans (hqf5 q), (hon.andThen (hap5.below.mono (by omega))).trans (Only.setCell _ _ _ _), HM2.out, by rw [List.length_append, List.length_singleton]; omega, by omega, HQ4.out⟩
                    · rw [World.cell?_setCell_other _ _ _ _ (by simp)]; exact hq15
                    · rw [World.cell?_setCell_other _ _ _ _ (by simp)]; exact hq25
                · have HQ4 := Lib.hid ((HMORE.out l hnum hlz (by rw [okV_has _ _ _ (by omega)]; simp [hin]; omega)).symm.trans HQ3.out)
                  have hlzb : (l == 0) = false := by simp [hlz]
                  clear hnum HNONE HZERO HMORE HBAD HQ3 HNB hin HTK HPFJ
                  have HOTH : Hid (∀ (w' w'' : World) (u u' : Value) q v, App (p + 2) w' w'' u u' → w'.cell? ⟨X, q, none⟩ = some v → u.ownBlock ≠ some X → w''.cell? ⟨X, q, none⟩ = some v) := fun w' w'' u u' q v ha hc hu => (World.cell?_of_block (a := ⟨X, q, none⟩) (ha.other X (World.block_lt_of_cell? w' _ hc) (fun e => hu e.symm))).trans hc
                  have HOTF : Hid (∀ (w' w'' : World) (u u' : Value) q, App (p + 2) w' w'' u u' → X < w'.heap.size → w'.frozen? ⟨X, q, none⟩ = false → u.ownBlock ≠ some X → w''.frozen? ⟨X, q, none⟩ = false) := fun w' w'' u u' q ha hl hc hu => (World.frozen?_of_block (a := ⟨X, q, none⟩) (ha.other X hl (fun e => hu e.symm))).trans hc
                  go_wp2_with (first
                    | (go_at_call 30; refine (HNUM.out _).mono ?_; rintro e2 wn ⟨rfl, hbn⟩; have hon := HO2.out.trans (Only.of_below hbn); have hfn := HF2.out.keep hbn; have hsn := hon.size; have hX9 := HF2.out.xlt; have hx0n := (hbn.cell (p := ⟨X, 0, none⟩) hX9).trans HXW.out.1; have hx1n := (hbn.cell (p := ⟨X, 1, none⟩) hX9).trans HXW.out.2.1; have hxfn : ∀ q, wn.frozen? ⟨X, q, none⟩ = false := fun q => (hbn.frozen (p := ⟨X, q, none⟩) hX9).trans (HXW.out.2.2 q); have hq0n := (hbn.cell (p := ⟨p + 1, 0, none⟩) (show p + 1 < _ by omega)).trans HQW.out.1; have hq1n := (hbn.cell (p := ⟨p + 1, 1, none⟩) (show p + 1 < _ by omega)).trans HQW.out.2.1; have hq2n := (hbn.cell (p := ⟨p + 1, 2, none⟩) (show p + 1 < _ by omega)).trans HQW.out.2.2.1; have hqfn : ∀ q, wn.frozen? ⟨p + 1, q, none⟩ = false := fun q => (hbn.frozen (p := ⟨p + 1, q, none⟩) (show p + 1 < _ by omega)).trans (HQW.out.2.2.2 q))
                    | (go_at_call 31; refine (HHAS.out _ (own_row (own_keep HF2.out.seen hbn))).mono ?_; rintro e4 w' ⟨rfl, rfl⟩)
                    | (at_builtin; refine wpList_app1 rfl _ _ rfl wn (p + 2) _ _ _ _ hfn.seen (by omega) (by omega) rfl rfl ?_; intro v5 w5 hown5 hap5; have hf5 := hfn.addS hap5 hown5; have hx05 := HOTH.out _ _ _ _ 0 _ hap5 hx0n (fun e => (hfn.so _ e).2.1 rfl); have hx15 := HOTH.out _ _ _ _ 1 _ hap5 hx1n (fun e => (hfn.so _ e).2.1 rfl); have hs5 := hap5.below.size)
                    | (at_builtin; refine wpList_app1 rfl _ _ rfl w5 (p + 2) _ _ _ _ hf5.cur (by omega) (by omega) rfl rfl ?_; intro v6 w6 hown6 hap6; have hf6 := hf5.addX hap6 hown6; have hx06 := HOTH.out _ _ _ _ 0 _ hap6 hx05 (fun e => (hf5.xo _ e).2.1 rfl); have hx16 := HOTH.out _ _ _ _ 1 _ hap6 hx15 (fun e => (hf5.xo _ e).2.1 rfl); have hxf6 : ∀ q, w6.frozen? ⟨X, q, none⟩ = false := (fun q => HOTF.out _ _ _ _ q hap6 hf5.xlt (HOTF.out _ _ _ _ q hap5 hfn.xlt (hxfn q) (fun e => (hfn.so _ e).2.1 rfl)) (fun e => (hf5.xo _ e).2.1 rfl)); have hxf60 := hxf6 1; obtain ⟨a6, c6, rfl, _, _⟩ := own_shape hown6))
                  go_roundg (N - (k + 1))
                  case measure => omega
                  case rel =>
                    have hb56 := hap5.below.trans (hap6.below.mono (Nat.le_refl _))
                    have hne : p + 1 ≠ X := by omega
                    have hq16 := (hb56.cell (p := ⟨p + 1, 1, none⟩) (Nat.lt_succ_self _)).trans hq1n
                    have hq26 := (hb56.cell (p := ⟨p + 1, 2, none⟩) (Nat.lt_succ_self _)).trans hq2n
                    have hq06 := (hb56.cell (p := ⟨p + 1, 0, none⟩) (Nat.lt_succ_self _)).trans hq0n
                    refine ⟨k + 1, j2 + 1, met2 ++ [l], cur ++ [l], _, by omega, rfl, by go_num, by have := HKJ.out; unfold Hid; omega, hf6.only (Only.setCell w6 X 1 _) (.inr rfl), ?_, World.cell?_setCell_same _ _ _ hx16, fun q => (World.frozen?_setCell _ _ _ _).trans (hxf6 q), ?_, ?_, ?_, fun q => (World.frozen?_setCell _ _ _ _).trans ((hb56.frozen (p := ⟨p + 1, q, none⟩) (Nat.lt_succ_self _)).trans (hqfn q)), hon.andThen ((hb56.mono (show W3.heap.size ≤ p + 2 by omega)).setCell (show W3.heap.size ≤ X by omega) _), ?_, by omega, by rw [List.length_append, List.length_singleton]; omega, by rw [List.length_append, List.length_singleton]; omega, HQ4.out⟩
                    · rw [World.cell?_setCell_other _ _ _ _ (by simp)]; exact hx06
                    · rw [World.cell?_setCell_other _ _ _ _ (by simp <;> omega)]; exact hq06
                    · rw [World.cell?_setCell_other _ _ _ _ (by simp <;> omega)]; exact hq16
                    · rw [World.cell?_setCell_other _ _ _ _ (by simp <;> omega)]; exact hq26
                    · intro y hy
                      rcases List.mem_append.1 hy with hy | hy
                      · exact HM2.out y hy
                      · have : y = l := by simpa using hy
                        omega
            · have hkn' : k = N := by omega
              have HE := Lib.hid (HQ3.out.symm.trans (bi_end (by rw [HUL.out]; have := HKJ.out; omega)))
              clear HQ3
              subst hkn'
              go_wp2_with (go_at_call 29; refine (HTK.out _ (HRWO.out _ HO2.out)).mono ?_; rintro e2 w9 ⟨rfl, hb9⟩; have hr9 := (HRES.out _ HO2.out).trans (hb9.mono (HRES.out _ HO2.out).size); obtain ⟨r1, r2, r3, r4, r5, r6, r7, r8⟩ := resWF hr9)
              have hbw9 := HWW.out.trans (hr9.mono HWW.out.size)
              exact bodyPost_ret (v := .tuple #[.agg #[.slice none 0 0, .int .i64 0, .slice none 0 0], .agg #[.int .i64 101, .bool true, .int .i64 ps]]) (by simp [results, Tryz.results8, go_sem, r1, r2, r3, r4, r5, r6]) rfl (HPFJ.out _ HE.out ((((((hbw9.setCell (Nat.le_refl _) _).setCell (Nat.le_refl _) _).setCell (Nat.le_refl _) _).setCell (by simp) _).setCell (by simp) _).setCell (by simp) _))
end Go.Proofs.YtfoohdknjacenaaGreatDoor
