/- Contracts of look's needed: which nodes a literal hangs on ('hangsL'). Conditions: the circuit is right, the literal one of it. -/
import Derived.Test.YtdmhjpofinnpmaaDoorLkA
import Derived.Deep.RegionHeld3
namespace Go.Proofs.YtdmhjpofinnpmaaDoor
open Go.RowKit

theorem reach_step {N j : Nat} {ps : List (Int × Int)} {v : List Bool} (hj : N < j) : reachN N ps (j - N) v = reachN N ps (j - 1 - N) (if v.getD j false = true then markR v (ps.getD (j - N - 1) (0, 0)) else v) := by
  obtain ⟨k, rfl⟩ : ∃ k, j = N + 1 + k := ⟨j - N - 1, by omega⟩
  rw [show N + 1 + k - N = k + 1 by omega, show N + 1 + k - 1 - N = k by omega, show k + 1 - 1 = k by omega, reachN]
  rfl

set_option maxRecDepth 8000 in
set_option maxHeartbeats 4000000 in
theorem needed_any (A : Nat → Addr) (N : Nat) (u v : Value) (ps : List (Int × Int)) (os : List Int) (l : Int) (L : Nat) (w : World) (hs : Sents2 w A) (hu : PRow w u ps) (hv : Row w v os) (hol : os.length ≤ 1000000) (hob : ∀ o ∈ os, in64 o) (hc : checkC (N : Int) ps os = 0) (h0 : 0 ≤ l) (hL : l / 2 = (L : Int)) (hLN : L ≤ N + ps.length) :
    Calls Tryd.prog 37 #[circV (N : Int) u v, .int .i64 l] w fun e w' => (∃ z, e = .returned z ∧ BRow w' z (hangsL N ps L)) ∧ Below w.heap.size w w' := by
  obtain ⟨hnm, hokp, hoko⟩ := check_zero8 hc
  have HIS := Lib.hid (fun W (hW : Below w.heap.size w W) => lis_yes A N u v ps os l W (hs.keep hW) (hu.keep hW) (hv.keep hW) hol hob hc h0 (by omega))
  have HGA := Lib.hid (fun W (hW : Below w.heap.size w W) n h1 h2 => lgate_any N n u v ps W (hu.keep hW) hnm h1 h2)
  have HOX : Hid (∀ k, k < ps.length → 0 ≤ (ps.getD k (0, 0)).1 ∧ 0 ≤ (ps.getD k (0, 0)).2 ∧ (ps.getD k (0, 0)).1 / 2 ≤ ((N + k : Nat) : Int) ∧ (ps.getD k (0, 0)).2 / 2 ≤ ((N + k : Nat) : Int)) := fun k hk => by
    have := (okP_iff _ _ _).1 (hokp k hk)
    omega
  obtain ⟨a1, c1, rfl, hu1, hu2, hu3⟩ := hu
  obtain ⟨a2, c2, rfl, hv1, hv2, hv3⟩ := hv
  have HBX := Lib.hid (fun W hW => cirC_box w W (N : Int) (.slice a1 ps.length c1) (.slice a2 os.length c2) hW)
  unfold CirC at HBX
  have HB0 : Hid ((w.alloc (.cells #[.int .i64 (N : Int), .slice a1 ps.length c1, .slice a2 os.length c2] 26)).heap.size = w.heap.size + 1) := by unfold Hid; simp
  rw [← HB0.out] at HBX
  have HRS := Lib.hid (fun j v hj => reach_step (N := N) (j := j) (ps := ps) (v := v) hj)
  have HFIN : Hid (reachN N ps (L - N) (seedR (L + 1) L) = hangsL N ps L) := rfl
  clear hc hoko hokp hu3 hv3 hs hob hu1 hu2 hv1 hv2 hol
  unfold circV at *
  have hq : l.tdiv 2 = (L : Int) := by rw [Int.tdiv_eq_ediv_of_nonneg h0]; exact hL
  generalize hangsL N ps L = fin at *
  generalize hm : ps.length = m at *
  have HM := Lib.hid hm
  clear hm hL
  generalize os.length = lo at *
  go_enter Tryd.func37, Tryd.ntmps37
  go_wp2_with fail
  generalize w.alloc (.cells #[.int .i64 (N : Int), .slice a1 m c1, .slice a2 lo c2] 26) = w0 at *
  refine (HIS.out _ (HBX.out _ (Below.refl _ _)).2).mono ?_
  rintro e w1 ⟨rfl, hb1⟩
  have HB1 := Lib.hid hb1
  obtain ⟨⟨k0, k1, k2⟩, hbw⟩ := HBX.out _ hb1
  clear hbw hb1
  go_wp2_with (at_make; refine wpList_makeG Value.bool false 28 4 1 Tryd.underlying28 infoBool9 rfl (by decide) rfl _ _ rfl w1 (L + 1) rfl rfl (by omega) ?_; intro w2 hcel hb2 hsz2; have HB2 := Lib.hid (HB1.out.trans (hb2.mono HB1.out.size)); obtain ⟨⟨t0, t1, t2⟩, hbw2⟩ := HBX.out _ HB2.out; have z0 := hcel.cells L (by simp); have zf := hcel.free L; have HC2 := Lib.hid (hcel.set L true); have HSQ : Hid (w0.heap.size ≤ w1.heap.size) := HB1.out.size; clear hb2 hbw2 hcel k0 k1 k2; generalize w1.heap.size = q at *)
  generalize hK : L + 1 = K at *
  have HK := Lib.hid hK
  clear hK
  have HBW2 := Lib.hid (HB2.out.setCell (show w0.heap.size ≤ (⟨q, L, none⟩ : Addr).block from HSQ.out) (.bool true))
  have hsq2 : w0.heap.size ≤ (w2.setCell ⟨q, L, none⟩ (.bool true)).heap.size := by have := HB2.out.size; simpa using this
  have HSZ2 := Lib.hid hsq2
  clear hsq2 t0 t1 t2 zf z0
  go_loopw [6, 7] (fun i _ wr => ∃ (j : Nat) (v : List Bool), i = .int .i64 (j : Int) ∧ j ≤ L ∧ CelG Value.bool false wr q v ∧ v.length = K ∧ Below w0.heap.size w0 wr ∧ Hid (reachN N ps (j - N) v = fin)) (fun i _ _ => (intOf i).toNat)
  case atStart => exact ⟨L, (List.replicate K false).set L true, rfl, Nat.le_refl _, HC2.out, by simp, HBW2.out, HFIN.out⟩
  case round =>
    obtain ⟨j, v, rfl, hjL, hcel, hvl, hbr, HR⟩ := hrel
    clear HC2 HB2 HBW2 HSZ2 HB1
    obtain ⟨⟨t0, t1, t2⟩, hbw⟩ := HBX.out _ hbr
    by_cases hlt : N < j
    · have hjK : j < K := by have := HK.out; omega
      have HST := Lib.hid (HRS.out j v hlt)
      have y0 := hcel.cells j (by have := HK.out; omega)
      cases hvj : v.getD j false with
      | true =>
        rw [hvj] at y0
        have HG := Lib.hid (HGA.out _ hbw j hlt (by omega))
        obtain ⟨o1, o2, o3, o4⟩ := HOX.out (j - N - 1) (by omega)
        have HR2 : Hid (reachN N ps (j - 1 - N) (markR v (ps.getD (j - N - 1) (0, 0))) = fin) := by
          have := HST.out
          rw [hvj, if_pos rfl] at this
          exact this.symm.trans HR.out
        clear hvj HR HST
        generalize ps.getD (j - N - 1) (0, 0) = xy at *
        obtain ⟨x, y⟩ := xy
        simp only at o1 o2 o3 o4 HG
        obtain ⟨X, hX⟩ : ∃ X : Nat, x / 2 = (X : Int) := ⟨(x / 2).toNat, by omega⟩
        obtain ⟨Y, hY⟩ : ∃ Y : Nat, y / 2 = (Y : Int) := ⟨(y / 2).toNat, by omega⟩
        have HMK : Hid (markR v (x, y) = (v.set X true).set Y true) := by unfold Hid markR; simp only; rw [hX, hY]; rfl
        have hqx : x.tdiv 2 = (X : Int) := by rw [Int.tdiv_eq_ediv_of_nonneg o1]; exact hX
        have hqy : y.tdiv 2 = (Y : Int) := by rw [Int.tdiv_eq_ediv_of_nonneg o2]; exact hY
        have hXl : X ≤ L := by omega
        have hYl : Y ≤ L := by omega
        have HCEL := Lib.hid hcel
        have HBR := Lib.hid hbr
        clear o1 o2 o3 o4 hX hY hbw hbr hcel
        go_wp2_with fail
        refine HG.out.mono ?_
        rintro e wg ⟨rfl, hbg⟩
        go_wp2_with fail
        have HGW := Lib.hid (HBR.out.trans (hbg.mono HBR.out.size))
        have HPQ : Hid (q < wg.heap.size) := Nat.lt_of_lt_of_le HCEL.out.sq hbg.size
        have HCG := Lib.hid ((HCEL.out.keep hbg).keep ((Below.refl _ wg).alloc (Nat.le_refl _) (.cells #[.int .i64 x, .int .i64 y] 49)))
        have HGA2 := Lib.hid (HGW.out.alloc HGW.out.size (.cells #[.int .i64 x, .int .i64 y] 49))
        obtain ⟨p0, p1⟩ := two_new wg wg.heap.size rfl (.int .i64 x) (.int .i64 y) 49
        generalize wg.alloc (.cells #[.int .i64 x, .int .i64 y] 49) = wp at *
        have hqp := HPQ.out
        generalize wg.heap.size = p at *
        have hne : q ≠ p := by omega
        have hXK : X < K := by have := HK.out; omega
        have hYK : Y < K := by have := HK.out; omega
        have f0 := HCG.out.free X
        have f1 := HCG.out.free Y
        have z0 := HCG.out.cells X (by omega)
        have z1 := (HCG.out.set X true).cells Y (by simp; omega)
        have f2 := (HCG.out.set X true).free Y
        have b1 : (0 : Int) ≤ (X : Int) := Int.natCast_nonneg X
        have b2 : (X : Int) < (K : Int) := by have := HK.out; omega
        have b3 : (0 : Int) ≤ (Y : Int) := Int.natCast_nonneg Y
        have b4 : (Y : Int) < (K : Int) := by have := HK.out; omega
        clear hbg t0 t1 t2
        generalize v.getD X false = vx at *
        generalize (v.set X true).getD Y false = vy at *
        go_region
        go_wp2_with fail
        go_roundw
        case rel =>
          rw [HMK.out] at HR2
          exact ⟨j - 1, (v.set X true).set Y true, by go_num, by omega, by first | exact (HCG.out.set X true).set Y true | exact (((HCG.out.set X true).set Y true).keep (Below.refl _ _).drew), by simp [hvl], by first | exact (HGA2.out.setCell HSQ.out _).setCell HSQ.out _ | exact ((HGA2.out.setCell HSQ.out _).setCell HSQ.out _).drew, HR2.out⟩
        case measure => simp [intOf]; omega
      | false =>
        rw [hvj] at y0
        have HR2 : Hid (reachN N ps (j - 1 - N) v = fin) := by
          have := HST.out
          rw [hvj, if_neg (by decide)] at this
          exact this.symm.trans HR.out
        have HCEL := Lib.hid hcel
        have HBR := Lib.hid hbr
        clear hvj HR HST hcel hbr hbw
        go_wp2_with fail
        go_roundw
        case rel => exact ⟨j - 1, v, by go_num, by omega, HCEL.out, hvl, HBR.out, HR2.out⟩
        case measure => simp [intOf]; omega
    · have HR2 : Hid (v = fin) := by
        have := HR.out
        rwa [show j - N = 0 by omega] at this
      have HCEL := Lib.hid hcel
      have HBW := Lib.hid hbw
      clear hcel hbr hbw HR
      go_wp2_with fail
      go_ret
      exact ⟨⟨_, rfl, by rw [← HR2.out, ← hvl]; exact HCEL.out.row _ (Nat.le_refl _) (by unfold maxLen; have := HK.out; omega)⟩, HBW.out⟩
end Go.Proofs.YtdmhjpofinnpmaaDoor
