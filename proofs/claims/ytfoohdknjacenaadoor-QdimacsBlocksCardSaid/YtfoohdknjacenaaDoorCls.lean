/- Contracts of dimacs.clauses and Clauses. Conditions: the slice reads as words, each of some bytes; the errors lie as 'Sents8' says. -/
import Derived.Test.YtfoohdknjacenaaDoorHead2
import Derived.Test.YtfoohdknjacenaaDoorClIG
namespace Go.Proofs.YtfoohdknjacenaaDoor
open Go.RowKit

theorem isF_abs (l v : Int) : (decide (1 ≤ absI l) && decide (absI l ≤ v)) = isF l v := by
  unfold isF absI
  rw [Bool.eq_iff_iff]
  simp
  split <;> omega
def ClsPost (A : Nat → Addr) (w : World) (ws : List Wd) (R : List (List Int) × Flt) (r : Ending) (w' : World) : Prop :=
  (∃ cv ev, r = .returned (.tuple #[cv, ev]) ∧ CRow w' w.heap.size cv R.1 ∧ ErrV A w' ws.length ev R.2) ∧ Below w.heap.size w w'

set_option maxHeartbeats 4000000 in
theorem cls_any (A : Nat → Addr) (v : Value) (ws : List Wd) (vars many : Int) (w : World) (hS : Sents8 w A) (hv : WRowO w v ws) (hok : WOk ws) (hn : ws.length ≤ 4000) :
    Calls Tryd.prog 33 #[v, .int .i64 vars, .int .i64 many] w (ClsPost A w ws (clausesL vars many 0 ws [] [])) := by
  obtain ⟨a, cap, rfl, hcl, hcm, hw⟩ := hv
  have c0 := hS.c0
  have z0 : 1 < w.heap.size := World.block_lt_of_cell? w _ c0
  have c7 := hS.c7
  have z7 : 2 < w.heap.size := World.block_lt_of_cell? w _ c7
  have HC0 : Hid (∀ W, Below w.heap.size w W → W.cell? ⟨1, 0, none⟩ = some (.iface 155 (.pointer (some (A 0))))) := fun W hW => (hW.cell (p := ⟨1, 0, none⟩) z0).trans c0
  have HC7 : Hid (∀ W, Below w.heap.size w W → W.cell? ⟨2, 0, none⟩ = some (.iface 155 (.pointer (some (A 7))))) := fun W hW => (hW.cell (p := ⟨2, 0, none⟩) z7).trans c7
  have HT := Lib.hid (fun (k : Nat) W => at_any A k 0 W)
  have HWD := Lib.hid hw; clear hw
  have HOK := Lib.hid hok; clear hok
  clear hS c0 c7
  have hbad : ∀ k W ev, k < ws.length → clausesL vars many k (ws.drop k) [] [] = clausesL vars many k (ws.drop k) [] [] → Below w.heap.size w W → AtV A W ev k 0 → clausesL vars many 0 ws [] [] = ([], .text k) → ClsPost A w ws (clausesL vars many 0 ws [] []) (.returned (.tuple #[.slice none 0 0, ev])) W := fun k W ev hk _ hb hat he => by
    rw [he]
    exact ⟨⟨_, _, rfl, CRow.nil _ _, .inl ⟨hk, hat⟩⟩, hb⟩
  have HBAD := Lib.hid (fun k W ev hk => hbad k W ev hk rfl); clear hbad
  have hlack : ∀ W, Below w.heap.size w W → clausesL vars many 0 ws [] [] = ([], .text ws.length) → ClsPost A w ws (clausesL vars many 0 ws [] []) (.returned (.tuple #[.slice none 0 0, sentV A 7])) W := fun W hb he => by
    rw [he]
    exact ⟨⟨_, _, rfl, CRow.nil _ _, .inr ⟨Nat.le_refl _, rfl⟩⟩, hb⟩
  have HLACK := Lib.hid hlack; clear hlack
  unfold sentV at HLACK
  have hgood : ∀ W out cv, Below w.heap.size w W → clausesL vars many 0 ws [] [] = (out, .ok) → CRow W w.heap.size cv out → ClsPost A w ws (clausesL vars many 0 ws [] []) (.returned (.tuple #[cv, .nilIface])) W := fun W out cv hb he hc => by
    rw [he]
    exact ⟨⟨_, _, rfl, hc, rfl⟩, hb⟩
  have HGOOD := Lib.hid hgood; clear hgood
  generalize hR : clausesL vars many 0 ws [] [] = R at *
  have HR := Lib.hid hR; clear hR
  generalize hP : ClsPost A w ws R = P at *
  clear hP
  have HEND := Lib.hid (fun dn cur (h : (dn.length : Int) < many) => cl_end (vars := vars) (many := many) (ws := ws) (i := ws.length) (out := dn) (c := cur) (Nat.le_refl _) h)
  have HDONE := Lib.hid (fun dn cur (h : ¬ (dn.length : Int) < many) => cl_done (vars := vars) (many := many) (ws := ws) (i := ws.length) (out := dn) (c := cur) (Nat.le_refl _) h)
  generalize hN : ws.length = n at *
  have HN := Lib.hid hN; clear hN
  generalize A 0 = a0 at *
  generalize A 7 = a7 at *
  go_enter Tryd.func33, Tryd.ntmps33
  go_wp2_with fail
  go_loopw [8, 9, 10, 17] (fun o c al i wr => ∃ (k q : Nat) (vs : List Value) (dn : List (List Int)) (cur : List Int), k ≤ n ∧ i = .int .i64 k ∧ al = .int .i64 q ∧ q ≤ k ∧ ClG wr w.heap.size o c vs dn cur ∧ Below w.heap.size w wr ∧ dn.length ≤ k ∧ cur.length ≤ k ∧ Hid (clausesL vars many k (ws.drop k) dn cur = R)) (fun _ _ _ i _ => n - (intOf i).toNat)
  case atStart => exact ⟨0, 0, _, _, _, Nat.zero_le _, rfl, rfl, Nat.le_refl _, ClG.start w _, Below.refl _ _, Nat.le_refl _, Nat.le_refl _, HR.out⟩
  case round =>
    obtain ⟨k, q, vs, dn, cur, hk, rfl, rfl, hqk, hI, hbr, hl1, hl2, HQ⟩ := hrel
    have hownc := hI.row
    have hsz := hbr.size
    obtain ⟨ac, capc, rfl, hcc1, hcc2⟩ := own_shape hI.row
    obtain ⟨ao, capo, rfl, hco1, hco2⟩ := own_shape hI.out
    unfold maxLen at hcc2 hco2 hcm
    have HI := Lib.hid hI; clear hI
    have HBR := Lib.hid hbr; clear hbr
    by_cases hlt : k < n
    · have hkl : k < ws.length := by rw [HN.out]; exact hlt
      obtain ⟨g, off, ha, hwc0⟩ := HWD.out.resolve_left (by omega)
      subst ha
      have hwc := hwc0.keep HBR.out
      have t1 : wr.cell? ⟨g, off + k * 3, none⟩ = some (.string (strOfNums (txt ws k))) := hwc.text k hkl
      have t2 := hwc.pos k hkl
      have t3 := hwc.fst k hkl
      obtain ⟨x1, x2, x3⟩ := HOK.out.at hkl
      have HNUM := Lib.hid (fun W => num_any (txt ws k) W x2 x3)
      unfold NumPost at HNUM
      have HNB := Lib.hid (fun l (h : numL (txt ws k) = some l) => numL_bd h)
      have HMORE := Lib.hid (fun (h : many ≤ (dn.length : Int)) => cl_more (vars := vars) (c := cur) hkl h)
      have HNONE := Lib.hid (fun (h : numL (txt ws k) = none) => cl_none (vars := vars) (many := many) (out := dn) (c := cur) hkl h)
      have HZERO := Lib.hid (fun h1 (h : numL (txt ws k) = some 0) => cl_zero (vars := vars) (many := many) (out := dn) (c := cur) hkl h1 h)
      have HLIT := Lib.hid (fun l h1 (h : numL (txt ws k) = some l) => cl_lit (vars := vars) (many := many) (out := dn) (c := cur) hkl h1 h)
      have HBADL := Lib.hid (fun l (h : numL (txt ws k) = some l) => cl_bad (vars := vars) (many := many) (out := dn) (c := cur) hkl h)
      have HTK := Lib.hid (HT.out k)
      have HIS := Lib.hid (fun (l : Int) (h1 : -1000000000 < l ∧ l < 1000000000) W => is_any l vars W (by omega) (by omega))
      have HBA : Hid (∀ o, Below wr.heap.size wr (wr.alloc o)) := fun o => (Below.refl _ wr).alloc (Nat.le_refl _) _
      clear hwc hwc0 x1 x2 x3 hkl
      have HBK := Lib.hid (fun W ev h1 h2 h3 => HBAD.out k W ev hlt h1 h2 h3)
      generalize txt ws k = xs at *
      generalize (ws.getD k wd0).2.1 = ps at *
      generalize (ws.getD k wd0).2.2 = fs at *
      generalize strOfNums xs = s at *
      generalize hdl : dn.length = d at *
      have HDL := Lib.hid hdl; clear hdl
      generalize hcu : cur.length = cu at *
      have HCU := Lib.hid hcu; clear hcu
      by_cases hmany : many ≤ (d : Int)
      · have HE := Lib.hid (HQ.out.symm.trans (HMORE.out hmany))
        clear HMORE HNONE HZERO HLIT HBADL HIS
        cases hnum : numL xs with
        | none =>
          rw [hnum] at HNUM
          clear hnum HNB
          go_wp2_with (first
            | (go_at_call 49; refine (HNUM.out _).mono ?_; rintro e w2 ⟨rfl, hb2⟩; have hbk := HBR.out.trans (((HBA.out _).trans (hb2.mono (by simp))).mono hsz); have g0 := HC0.out _ hbk)
            | (go_at_call 45; refine (HTK.out _).mono ?_; rintro e w3 ⟨⟨ov, rfl, hat⟩, hb3⟩))
          (try go_ret2)
          exact HBK.out _ _ (hbk.trans (hb3.mono hbk.size)) hat HE.out
        | some l =>
          rw [hnum] at HNUM
          clear hnum HNB
          go_wp2_with (first
            | (go_at_call 49; refine (HNUM.out _).mono ?_; rintro e w2 ⟨rfl, hb2⟩; have hbk := HBR.out.trans (((HBA.out _).trans (hb2.mono (by simp))).mono hsz); have g0 := HC0.out _ hbk)
            | (go_at_call 45; refine (HTK.out _).mono ?_; rintro e w3 ⟨⟨ov, rfl, hat⟩, hb3⟩))
          (try go_ret2)
          exact HBK.out _ _ (hbk.trans (hb3.mono hbk.size)) hat HE.out
      · have hmb : decide (many ≤ (d : Int)) = false := by simpa using hmany
        have HM := Lib.hid (show (d : Int) < many by omega)
        clear hmany HMORE
        cases hnum : numL xs with
        | none =>
          rw [hnum] at HNUM
          have HE := Lib.hid (HQ.out.symm.trans (HNONE.out hnum))
          clear hnum HNB HNONE HZERO HLIT HBADL HIS
          go_wp2_with (first
            | (go_at_call 49; refine (HNUM.out _).mono ?_; rintro e w2 ⟨rfl, hb2⟩; have hbk := HBR.out.trans (((HBA.out _).trans (hb2.mono (by simp))).mono hsz); have g0 := HC0.out _ hbk)
            | (go_at_call 45; refine (HTK.out _).mono ?_; rintro e w3 ⟨⟨ov, rfl, hat⟩, hb3⟩))
          (try go_ret2)
          exact HBK.out _ _ (hbk.trans (hb3.mono hbk.size)) hat HE.out
        | some l =>
          have hlb := HNB.out l hnum
          rw [hnum] at HNUM
          by_cases hl0 : l = 0
          · subst hl0
            have HQ' := Lib.hid ((HZERO.out HM.out hnum).symm.trans HQ.out)
            clear hnum HNB HNONE HZERO HLIT HBADL HIS HTK HBK HQ
            go_wp2_with (first
              | (go_at_call 49; refine (HNUM.out _).mono ?_; rintro e w2 ⟨rfl, hb2⟩; have hbk0 := (HBA.out _).trans (hb2.mono (by simp)); have hbk := HBR.out.trans (hbk0.mono hsz); have HI2 := Lib.hid (HI.out.keep hbk0); have ho2 := HI2.out.out; rw [HDL.out] at ho2)
              | (at_builtin; refine wpList_appV 25 23 (.slice none 0 0) 24 Tryd.underlying25 infoInts rfl (by decide) rfl _ _ rfl w2 w.heap.size _ _ _ _ rfl ho2 hbk.size (by omega) _ rfl rfl rfl ?_; intro o' w3 ho3 hap3))
            go_roundw
            case rel => exact ⟨k + 1, q, _, dn ++ [cur], [], by omega, by go_num, rfl, by omega, HI2.out.push hap3 (by rw [HDL.out]; exact ho3), hbk.trans hap3.below, by rw [List.length_append, HDL.out, List.length_singleton]; omega, by simp, HQ'.out⟩
            case measure => go_light; simp [intOf]; omega
          · have hl0b : (l == 0) = false := by simp [hl0]
            have hl0c : (l != 0) = true := by simp [hl0]
            have HISL := Lib.hid (HIS.out l hlb)
            rw [isF_abs] at HISL
            cases hisf : isF l vars with
            | false =>
              have HE := Lib.hid (HQ.out.symm.trans (HBADL.out l hnum hl0 hisf))
              rw [hisf] at HISL
              clear hnum HNB HNONE HZERO HLIT HBADL HIS HQ hisf hl0
              go_wp2_with (first
                | (go_at_call 49; refine (HNUM.out _).mono ?_; rintro e w2 ⟨rfl, hb2⟩; have hbk := HBR.out.trans (((HBA.out _).trans (hb2.mono (by simp))).mono hsz); have g0 := HC0.out _ hbk)
                | (go_at_call 51; refine (HISL.out _).mono ?_; rintro e w' ⟨rfl, rfl⟩)
                | (go_at_call 45; refine (HTK.out _).mono ?_; rintro e w3 ⟨⟨ov, rfl, hat⟩, hb3⟩))
              (try go_ret2)
              exact HBK.out _ _ (hbk.trans (hb3.mono hbk.size)) hat HE.out
            | true =>
              have HQ' := Lib.hid ((HLIT.out l HM.out hnum hl0 hisf).symm.trans HQ.out)
              rw [hisf] at HISL
              have hq8 : ((q : Int) == 80000) = false := by simp; omega
              clear hnum HNB HNONE HZERO HLIT HBADL HIS HTK HBK HQ hisf hl0
              go_wp2_with (first
                | (go_at_call 49; refine (HNUM.out _).mono ?_; rintro e w2 ⟨rfl, hb2⟩; have hbk0 := (HBA.out _).trans (hb2.mono (by simp)); have hbk := HBR.out.trans (hbk0.mono hsz); have HI2 := Lib.hid (HI.out.keep hbk0); have hr2 := HI2.out.row; rw [HCU.out] at hr2)
                | (go_at_call 51; refine (HISL.out _).mono ?_; rintro e w' ⟨rfl, rfl⟩)
                | (at_builtin; refine wpList_app1 rfl _ _ rfl w2 w.heap.size _ _ _ _ hr2 hbk.size (by omega) rfl rfl ?_; intro v' w3 hown3 hap3))
              go_roundw
              case rel => exact ⟨k + 1, q + 1, vs, dn, cur ++ [_], by omega, by go_num, by go_num, by omega, HI2.out.add hap3 (by rw [HCU.out]; exact hown3), hbk.trans hap3.below, by rw [HDL.out]; omega, by rw [List.length_append, HCU.out, List.length_singleton]; omega, HQ'.out⟩
              case measure => go_light; simp [intOf]; omega
    · have hkn : k = n := by omega
      subst hkn
      by_cases hd : (dn.length : Int) < many
      · have HE := Lib.hid (HQ.out.symm.trans (HEND.out dn cur hd))
        have g7 := HC7.out _ HBR.out
        clear HEND HDONE
        generalize dn.length = d at *
        go_wp2_with fail
        go_quiet (fail)
        go_wp2_with fail
        (try go_ret2)
        exact HLACK.out _ (below_drewN HBR.out _) HE.out
      · have HE := Lib.hid (HQ.out.symm.trans (HDONE.out dn cur (by omega)))
        have hdb : decide ((dn.length : Int) < many) = false := by simpa using hd
        have HRW := Lib.hid (show CRow _ _ _ _ from ⟨_, _, _, HI.out⟩)
        clear HEND HDONE hd
        generalize hdl : dn.length = d at *
        have HDL := Lib.hid hdl; clear hdl
        go_wp2_with fail
        (try go_ret2)
        exact HGOOD.out _ _ _ HBR.out HE.out HRW.out

theorem clausesOf_any (A : Nat → Addr) (v : Value) (ws : List Wd) (e vars many : Int) (w : World) (hS : Sents8 w A) (hv : WRowO w v ws) (hok : WOk ws) (hn : ws.length ≤ 4000) :
    Calls Tryd.prog 17 #[v, .int .i64 e, .int .i64 vars, .int .i64 many] w fun r w' => (∃ cv ov, r = .returned (.tuple #[cv, ov]) ∧ CRow w' w.heap.size cv (clausesL vars many 0 ws [] []).1 ∧ OutV A w.heap.size w' ws e ov (clausesL vars many 0 ws [] []).2) ∧ Below w.heap.size w w' := by
  have H1 := Lib.hid (cls_any A v ws vars many w hS hv hok hn)
  have H2 := Lib.hid (fun W (hW : Below w.heap.size w W) ev f (h : ErrV A W ws.length ev f) => told_any A v ev ws e f W (hS.keep hW) (hv.keep hW) h)
  clear hS hv hok
  unfold ClsPost at H1
  generalize (clausesL vars many 0 ws [] []).1 = out at *
  generalize (clausesL vars many 0 ws [] []).2 = f at *
  go_enter Tryd.func17, Tryd.ntmps17
  go_wp2_with (first
    | (go_at_call 33; refine H1.out.mono ?_; rintro e w1 ⟨⟨cv, ev, rfl, hC, hE⟩, hb1⟩)
    | (go_at_call 30; refine (H2.out _ hb1 _ _ hE).mono ?_; rintro e w2 ⟨⟨ov, rfl, hO⟩, hb2⟩))
  go_ret2
  exact ⟨⟨_, _, rfl, hC.keep hb2, hO.mono hb1.size⟩, hb1.trans (hb2.mono hb1.size)⟩
end Go.Proofs.YtfoohdknjacenaaDoor
