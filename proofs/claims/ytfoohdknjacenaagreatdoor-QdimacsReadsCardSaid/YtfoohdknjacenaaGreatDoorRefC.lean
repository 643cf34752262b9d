/- Contracts of the document's own skolemref1.Is, Clauses. Conditions: the slice reads as words, each of some bytes. -/
import Derived.Test.YtfoohdknjacenaaGreatDoorRefH
namespace Go.Proofs.YtfoohdknjacenaaGreatDoor
open Go.RowKit

set_option maxHeartbeats 400000 in
theorem refIs_any (l v : Int) (w : World) (h1 : -9223372036854775807 ≤ l) (h2 : l ≤ 9223372036854775807) (hv1 : -9223372036854775808 ≤ v) (hv2 : v ≤ 9223372036854775807) :
    Calls Tryz.prog 61 #[.int .i64 l, .int .i64 v] w fun e w' => e = .returned (.bool (isB v l)) ∧ w = w' := by
  have H := Lib.hid (show isB v l = decide (l ≠ 0 ∧ l ≤ v ∧ -v ≤ l) from by
    unfold isB absI; rw [Bool.eq_iff_iff]; simp; split <;> omega)
  generalize isB v l = r at *
  by_cases h0 : l = 0
  · subst h0
    go_enter Tryz.func61, Tryz.ntmps61
    go_wp2
    go_ret
    exact ⟨ret_bool (by rw [H.out]; simp), rfl⟩
  have hb0 : (l == 0) = false := by simp [h0]
  have hb0' : (l != 0) = true := by simp [h0]
  by_cases hle : l ≤ v
  · have hd : decide (l ≤ v) = true := by simp [hle]
    go_enter Tryz.func61, Tryz.ntmps61
    go_wp2
    go_ret
    exact ⟨ret_bool (by rw [H.out]; simp [h0, hle]), rfl⟩
  · have hd : decide (l ≤ v) = false := by simp; omega
    go_enter Tryz.func61, Tryz.ntmps61
    go_wp2
    go_ret
    exact ⟨ret_bool (by rw [H.out]; simp; omega), rfl⟩

def RCPost (w : World) (ws : List Wd) (e : Int) (R : List (List Int) × Flt) (r : Ending) (w' : World) : Prop := (∃ cv, r = .returned (.tuple #[cv, fltV ws e R.2]) ∧ CRow w' (w.heap.size + 1) cv R.1) ∧ Below w.heap.size w w'

set_option maxHeartbeats 4000000 in
theorem refCls_any (v : Value) (ws : List Wd) (e vars many : Int) (w : World) (hv : WRowO w v ws) (hok : WOk ws) (hn : ws.length ≤ 4000) (hv1 : -9223372036854775808 ≤ vars) (hv2 : vars ≤ 9223372036854775807) :
    Calls Tryz.prog 32 #[v, .int .i64 e, .int .i64 vars, .int .i64 many] w (RCPost w ws e (clausesL vars many 0 ws [] [])) := by
  have HB0 : Hid (∀ o, Below w.heap.size w (w.alloc o)) := fun o => (Below.refl _ w).alloc (Nat.le_refl _) _
  have HTX := Lib.hid (fun (k : Nat) W (hW : Below w.heap.size w W) => refText_any v ws k e W (hv.keep hW))
  have HNO := Lib.hid (fun W => none_any W)
  obtain ⟨a, cap, rfl, hcl, hcm, hw⟩ := hv
  have HWD := Lib.hid hw; clear hw
  have HOK := Lib.hid hok; clear hok
  have hpost : ∀ W R cv, R = clausesL vars many 0 ws [] [] → Below w.heap.size w W → CRow W (w.heap.size + 1) cv R.1 → ∀ fv, fv = fltV ws e R.2 → RCPost w ws e (clausesL vars many 0 ws [] []) (.returned (.tuple #[cv, fv])) W := fun W R cv hR hb hc fv hf => by
    rw [← hR, hf]
    exact ⟨⟨_, rfl, hc⟩, hb⟩
  have HPO := Lib.hid hpost; clear hpost
  generalize hR : clausesL vars many 0 ws [] [] = R at *
  have HR := Lib.hid hR; clear hR
  have HEND := Lib.hid (fun dn cur (h : (dn.length : Int) < many) => cl_end (vars := vars) (many := many) (ws := ws) (i := ws.length) (out := dn) (c := cur) (Nat.le_refl _) h)
  have HDONE := Lib.hid (fun dn cur (h : ¬ (dn.length : Int) < many) => cl_done (vars := vars) (many := many) (ws := ws) (i := ws.length) (out := dn) (c := cur) (Nat.le_refl _) h)
  have HFV := Lib.hid (fun k => show fltV ws e (.text k) = .agg #[.int .i64 101, .bool true, .int .i64 (posL ws k e)] from rfl)
  have HFN := Lib.hid (show fltV ws e .ok = .agg #[.int .i64 0, .bool false, .int .i64 0] from rfl)
  unfold faultV at HNO
  generalize hN : ws.length = n at *
  have HN := Lib.hid hN; clear hN
  generalize hP : RCPost w ws e R = P at *
  clear hP
  go_enter Tryz.func32, Tryz.ntmps32
  go_wp2_with fail
  have hw0b := HB0.out (.cells #[.int .i64 0, .bool false, .int .i64 0] 35)
  have hw0s : (w.alloc (.cells #[.int .i64 0, .bool false, .int .i64 0] 35)).heap.size = w.heap.size + 1 := by simp
  have hw0c : ∀ k v, (#[Value.int .i64 0, .bool false, .int .i64 0] : Array Value)[k]? = some v → (w.alloc (.cells #[.int .i64 0, .bool false, .int .i64 0] 35)).cell? ⟨w.heap.size, k, none⟩ = some v := fun k v h => by rw [World.cell?_alloc_at _ _ _ _ (by simp)]; exact h
  have hw0f : ∀ k, (w.alloc (.cells #[.int .i64 0, .bool false, .int .i64 0] 35)).frozen? ⟨w.heap.size, k, none⟩ = false := fun k => World.frozen?_alloc_at _ _ _ _ (by simp)
  generalize w.alloc (.cells #[.int .i64 0, .bool false, .int .i64 0] 35) = w0 at *
  have HW0B := Lib.hid hw0b; clear hw0b
  have HRES : Hid (∀ W, Below w0.heap.size w0 W → W.cell? ⟨w.heap.size, 0, none⟩ = some (.int .i64 0) ∧ W.cell? ⟨w.heap.size, 1, none⟩ = some (.bool false) ∧ W.cell? ⟨w.heap.size, 2, none⟩ = some (.int .i64 0) ∧ (∀ k, W.frozen? ⟨w.heap.size, k, none⟩ = false) ∧ w.heap.size + 1 ≤ W.heap.size) := fun W hW => by
    have hlt : w.heap.size < w0.heap.size := by omega
    refine ⟨(hW.cell (p := ⟨w.heap.size, 0, none⟩) hlt).trans (hw0c 0 _ rfl), (hW.cell (p := ⟨w.heap.size, 1, none⟩) hlt).trans (hw0c 1 _ rfl), (hW.cell (p := ⟨w.heap.size, 2, none⟩) hlt).trans (hw0c 2 _ rfl), fun k => (hW.frozen (p := ⟨w.heap.size, k, none⟩) hlt).trans (hw0f k), by have := hW.size; omega⟩
  clear hw0c hw0f
  have HSZ := Lib.hid hw0s; clear hw0s
  go_loopw [10, 11, 12, 13] (fun o c al i wr => ∃ (k q : Nat) (vs : List Value) (dn : List (List Int)) (cur : List Int), k ≤ n ∧ i = .int .i64 k ∧ al = .int .i64 q ∧ q ≤ k ∧ ClG wr (w.heap.size + 1) o c vs dn cur ∧ Below w0.heap.size w0 wr ∧ dn.length ≤ k ∧ cur.length ≤ k ∧ Hid (clausesL vars many k (ws.drop k) dn cur = R)) (fun _ _ _ i _ => n - (intOf i).toNat)
  case atStart => exact ⟨0, 0, _, _, _, Nat.zero_le _, rfl, rfl, Nat.le_refl _, ClG.start _ _, Below.refl _ _, Nat.le_refl _, Nat.le_refl _, HR.out⟩
  case round =>
    obtain ⟨k, q, vs, dn, cur, hk, rfl, rfl, hqk, hI, hbr, hl1, hl2, HQ⟩ := hrel
    have hownc := hI.row
    have hsz : w.heap.size + 1 ≤ wr.heap.size := (HRES.out _ hbr).2.2.2.2
    obtain ⟨ac, capc, rfl, hcc1, hcc2⟩ := own_shape hI.row
    obtain ⟨ao, capo, rfl, hco1, hco2⟩ := own_shape hI.out
    unfold maxLen at hcc2 hco2 hcm
    have HI := Lib.hid hI; clear hI
    have HBR := Lib.hid (show Below w.heap.size w wr from HW0B.out.trans (hbr.mono (by have := HSZ.out; omega)))
    have HBR0 := Lib.hid hbr; clear hbr
    have HFIN : Hid (∀ (wr2 W : World) (x y z : Value), Below wr2.heap.size wr2 W → Below w.heap.size w wr2 → Below w.heap.size w (((W.setCell ⟨w.heap.size, 0, none⟩ x).setCell ⟨w.heap.size, 1, none⟩ y).setCell ⟨w.heap.size, 2, none⟩ z)) := fun wr2 W x y z h1 h2 => (((h2.trans (h1.mono h2.size)).setCell (Nat.le_refl _) _).setCell (Nat.le_refl _) _).setCell (Nat.le_refl _) _
    have HTXK := Lib.hid (HTX.out k)
    rw [HFV.out k] at HTXK
    have HFVK := Lib.hid (HFV.out k)
    generalize hps : posL ws k e = ps at *
    clear hps
    by_cases hlt : k < n
    · have hkl : k < ws.length := by rw [HN.out]; exact hlt
      obtain ⟨g, off, ha, hwc0⟩ := HWD.out.resolve_left (by omega)
      subst ha
      have hwc := hwc0.keep HBR.out
      have t1 : wr.cell? ⟨g, off + k * 3, none⟩ = some (.string (strOfNums (txt ws k))) := hwc.text k hkl
      obtain ⟨x1, x2, x3⟩ := HOK.out.at hkl
      have HNUM := Lib.hid (fun W => refNum_any (txt ws k) W x2 x3)
      unfold NumPost at HNUM
      have HNB := Lib.hid (fun l (h : numL (txt ws k) = some l) => numL_bd h)
      have HMORE := Lib.hid (fun (h : many ≤ (dn.length : Int)) => cl_more (vars := vars) (c := cur) hkl h)
      have HNONE := Lib.hid (fun (h : numL (txt ws k) = none) => cl_none (vars := vars) (many := many) (out := dn) (c := cur) hkl h)
      have HZERO := Lib.hid (fun h1 (h : numL (txt ws k) = some 0) => cl_zero (vars := vars) (many := many) (out := dn) (c := cur) hkl h1 h)
      have HLIT := Lib.hid (fun l h1 (h : numL (txt ws k) = some l) => cl_lit (vars := vars) (many := many) (out := dn) (c := cur) hkl h1 h)
      have HBADL := Lib.hid (fun l (h : numL (txt ws k) = some l) => cl_bad (vars := vars) (many := many) (out := dn) (c := cur) hkl h)
      have HIS := Lib.hid (fun (l : Int) (h1 : -1000000000 < l ∧ l < 1000000000) W => refIs_any l vars W (by omega) (by omega) hv1 hv2)
      have hkb : decide ((n : Int) ≤ (k : Int)) = false := by simp; omega
      have hkc : decide ((k : Int) < (n : Int)) = true := by simp; omega
      have hkd : (k : Int) < n := by omega
      clear hwc hwc0 x1 x2 x3 hkl
      generalize txt ws k = xs at *
      generalize strOfNums xs = s at *
      generalize hdl : dn.length = d at *
      have HDL := Lib.hid hdl; clear hdl
      generalize hcu : cur.length = cu at *
      have HCU := Lib.hid hcu; clear hcu
      by_cases hmany : many ≤ (d : Int)
      · have HE := Lib.hid (HQ.out.symm.trans (HMORE.out hmany))
        have hmb : decide ((d : Int) < many) = false := by simp; omega
        clear HMORE HNONE HZERO HLIT HBADL HIS HNUM hmany
        go_wp2_with (go_at_call 29; refine (HTXK.out _ HBR.out).mono ?_; rintro e2 w9 ⟨rfl, hb9⟩; obtain ⟨hc0, hc1, hc2, hf, hs9⟩ := HRES.out w9 (HBR0.out.trans (hb9.mono HBR0.out.size)))
        exact bodyPost_ret (v := .tuple #[.slice none 0 0, .agg #[.int .i64 101, .bool true, .int .i64 ps]]) (by simp [results, Tryz.results32, go_sem, hc0, hc1, hc2]) rfl (HPO.out _ _ _ HE.out.symm (HFIN.out wr w9 _ _ _ hb9 HBR.out) (CRow.nil _ _) _ HFVK.out.symm)
      · have hmb : decide ((d : Int) < many) = true := by simp; omega
        have HM := Lib.hid (show (d : Int) < many by omega)
        clear hmany HMORE
        cases hnum : numL xs with
        | none =>
          rw [hnum] at HNUM
          have HE := Lib.hid (HQ.out.symm.trans (HNONE.out hnum))
          clear hnum HNB HNONE HZERO HLIT HBADL HIS
          go_wp2_with (first
            | (go_at_call 30; refine (HNUM.out _).mono ?_; rintro e2 w2 ⟨rfl, hb2⟩; have hbk := HBR.out.trans (hb2.mono HBR.out.size); have hbk0 := HBR0.out.trans (hb2.mono HBR0.out.size))
            | (go_at_call 29; refine (HTXK.out _ hbk).mono ?_; rintro e2 w9 ⟨rfl, hb9⟩; obtain ⟨hc0, hc1, hc2, hf, hs9⟩ := HRES.out w9 (hbk0.trans (hb9.mono hbk0.size))))
          exact bodyPost_ret (v := .tuple #[.slice none 0 0, .agg #[.int .i64 101, .bool true, .int .i64 ps]]) (by simp [results, Tryz.results32, go_sem, hc0, hc1, hc2]) rfl (HPO.out _ _ _ HE.out.symm (HFIN.out w2 w9 _ _ _ hb9 hbk) (CRow.nil _ _) _ HFVK.out.symm)
        | some l =>
          have hlb := HNB.out l hnum
          rw [hnum] at HNUM
          by_cases hl0 : l = 0
          · subst hl0
            have HQ' := Lib.hid ((HZERO.out HM.out hnum).symm.trans HQ.out)
            clear hnum HNB HNONE HZERO HLIT HBADL HIS HTXK HQ
            go_wp2_with (first
              | (go_at_call 30; refine (HNUM.out _).mono ?_; rintro e2 w2 ⟨rfl, hb2⟩; have hbk := HBR.out.trans (hb2.mono HBR.out.size); have hbk0 := HBR0.out.trans (hb2.mono HBR0.out.size); have HI2 := Lib.hid (HI.out.keep hb2); have ho2 := HI2.out.out; rw [HDL.out] at ho2; have hs2 : w.heap.size + 1 ≤ w2.heap.size := (HRES.out _ hbk0).2.2.2.2)
              | (at_builtin; refine wpList_appV 25 46 (.slice none 0 0) 24 Tryz.underlying25 infoInts rfl (by decide) rfl _ _ rfl w2 (w.heap.size + 1) _ _ _ _ rfl ho2 hs2 (by omega) _ rfl rfl rfl ?_; intro o' w3 ho3 hap3))
            go_roundw
            case rel => exact ⟨k + 1, q, _, dn ++ [cur], [], by omega, by go_num, rfl, by omega, HI2.out.push hap3 (by rw [HDL.out]; exact ho3), hbk0.trans (by have := hap3.below; exact this.mono (by have := HSZ.out; omega)), by rw [List.length_append, HDL.out, List.length_singleton]; omega, by simp, HQ'.out⟩
            case measure => go_light; simp [intOf]; omega
          · have hl0b : (l == 0) = false := by simp [hl0]
            have hl0c : (l != 0) = true := by simp [hl0]
            have HISL := Lib.hid (HIS.out l hlb)
            rw [show isB vars l = isF l vars from isF_abs l vars] at HISL
            cases hisf : isF l vars with
            | false =>
              have HE := Lib.hid (HQ.out.symm.trans (HBADL.out l hnum hl0 hisf))
              rw [hisf] at HISL
              clear hnum HNB HNONE HZERO HLIT HBADL HIS HQ hisf hl0
              go_wp2_with (first
                | (go_at_call 30; refine (HNUM.out _).mono ?_; rintro e2 w2 ⟨rfl, hb2⟩; have hbk := HBR.out.trans (hb2.mono HBR.out.size); have hbk0 := HBR0.out.trans (hb2.mono HBR0.out.size))
                | (go_at_call 61; refine (HISL.out _).mono ?_; rintro e2 w' ⟨rfl, rfl⟩)
                | (go_at_call 29; refine (HTXK.out _ hbk).mono ?_; rintro e2 w9 ⟨rfl, hb9⟩; obtain ⟨hc0, hc1, hc2, hf, hs9⟩ := HRES.out w9 (hbk0.trans (hb9.mono hbk0.size))))
              exact bodyPost_ret (v := .tuple #[.slice none 0 0, .agg #[.int .i64 101, .bool true, .int .i64 ps]]) (by simp [results, Tryz.results32, go_sem, hc0, hc1, hc2]) rfl (HPO.out _ _ _ HE.out.symm (HFIN.out w2 w9 _ _ _ hb9 hbk) (CRow.nil _ _) _ HFVK.out.symm)
            | true =>
              have HQ' := Lib.hid ((HLIT.out l HM.out hnum hl0 hisf).symm.trans HQ.out)
              rw [hisf] at HISL
              have hq8 : decide ((80000 : Int) < (q : Int) + 1) = false := by simp; omega
              clear hnum HNB HNONE HZERO HLIT HBADL HIS HTXK HQ hisf hl0
              go_wp2_with (first
                | (go_at_call 30; refine (HNUM.out _).mono ?_; rintro e2 w2 ⟨rfl, hb2⟩; have hbk := HBR.out.trans (hb2.mono HBR.out.size); have hbk0 := HBR0.out.trans (hb2.mono HBR0.out.size); have HI2 := Lib.hid (HI.out.keep hb2); have hr2 := HI2.out.row; rw [HCU.out] at hr2; have hs2 : w.heap.size + 1 ≤ w2.heap.size := (HRES.out _ hbk0).2.2.2.2)
                | (go_at_call 61; refine (HISL.out _).mono ?_; rintro e2 w' ⟨rfl, rfl⟩)
                | (at_builtin; refine wpList_app1 rfl _ _ rfl w2 (w.heap.size + 1) _ _ _ _ hr2 hs2 (by omega) rfl rfl ?_; intro v' w3 hown3 hap3))
              go_roundw
              case rel => exact ⟨k + 1, q + 1, vs, dn, cur ++ [_], by omega, by go_num, by go_num, by omega, HI2.out.add hap3 (by rw [HCU.out]; exact hown3), hbk0.trans (by have := hap3.below; exact this.mono (by have := HSZ.out; omega)), by rw [HDL.out]; omega, by rw [List.length_append, HCU.out, List.length_singleton]; omega, HQ'.out⟩
              case measure => go_light; simp [intOf]; omega
    · have hkn : k = n := by omega
      subst hkn
      by_cases hd : (dn.length : Int) < many
      · have HE := Lib.hid (HQ.out.symm.trans (HEND.out dn cur hd))
        clear HEND HDONE
        generalize dn.length = d at *
        go_wp2_with (go_at_call 29; refine (HTXK.out _ HBR.out).mono ?_; rintro e2 w9 ⟨rfl, hb9⟩; obtain ⟨hc0, hc1, hc2, hf, hs9⟩ := HRES.out w9 (HBR0.out.trans (hb9.mono HBR0.out.size)))
        exact bodyPost_ret (v := .tuple #[.slice none 0 0, .agg #[.int .i64 101, .bool true, .int .i64 ps]]) (by simp [results, Tryz.results32, go_sem, hc0, hc1, hc2]) rfl (HPO.out _ _ _ HE.out.symm (HFIN.out wr w9 _ _ _ hb9 HBR.out) (CRow.nil _ _) _ HFVK.out.symm)
      · have HE := Lib.hid (HQ.out.symm.trans (HDONE.out dn cur (by omega)))
        have hdb : decide ((dn.length : Int) < many) = false := by simpa using hd
        have HRW := Lib.hid (show CRow _ _ _ _ from ⟨_, _, _, HI.out⟩)
        clear HEND HDONE hd
        generalize hdl : dn.length = d at *
        have HDL := Lib.hid hdl; clear hdl
        go_wp2_with (go_at_call 42; refine (HNO.out _).mono ?_; rintro e2 w9 ⟨rfl, hb9⟩; obtain ⟨hc0, hc1, hc2, hf, hs9⟩ := HRES.out w9 (HBR0.out.trans (hb9.mono HBR0.out.size)))
        exact bodyPost_ret (v := .tuple #[.slice ao d capo, .agg #[.int .i64 0, .bool false, .int .i64 0]]) (by simp [results, Tryz.results32, go_sem, hc0, hc1, hc2]) rfl (HPO.out _ _ _ HE.out.symm (HFIN.out wr w9 _ _ _ hb9 HBR.out) ((((HRW.out.keep hb9).set _ _ _ (by omega)).set _ _ _ (by omega)).set _ _ _ (by omega)) _ HFN.out.symm)
end Go.Proofs.YtfoohdknjacenaaGreatDoor
