/- The contract of the document's reach: which nodes a literal hangs on, all nodes told. Conditions: the circuit is right, the literal one of it. -/
import Derived.Test.YtdmhjpofinnpmaaDoorLkA
import Derived.Deep.RegionHeld3
namespace Go.Proofs.YtdmhjpofinnpmaaDoor
open Go.RowKit

/-- All nodes, those beyond L too. -/
def reachL (N : Nat) (ps : List (Int × Int)) (L : Nat) : List Bool := reachN N ps ps.length (seedR (N + ps.length + 1) L)
theorem reachL_len (N : Nat) (ps : List (Int × Int)) (L : Nat) : (reachL N ps L).length = N + ps.length + 1 := by unfold reachL; rw [reachN_len, seed_len]
theorem reachL_get {N : Nat} {ps : List (Int × Int)} {os : List Int} (hc : checkC (N : Int) ps os = 0) {L : Nat} (hL : L ≤ N + ps.length) (n : Nat) : (reachL N ps L).getD n false = hangs N ps L n := by
  obtain ⟨hnm, hokp, hoko⟩ := check_zero8 hc
  unfold reachL
  rw [reach_all hokp L hL, app_false]
  rfl
theorem reach_step8 {N k : Nat} {ps : List (Int × Int)} {v : List Bool} : reachN N ps (k + 1) v = reachN N ps k (if v.getD (N + k + 1) false = true then markR v (ps.getD k (0, 0)) else v) := by
  rw [reachN, show N + k + 1 = N + 1 + k by omega]
  rfl

set_option maxRecDepth 8000 in
set_option maxHeartbeats 4000000 in
theorem reach_any (N : Nat) (u v : Value) (ps : List (Int × Int)) (os : List Int) (l : Int) (L : Nat) (w : World) (hu : PRow w u ps) (hv : Row w v os) (hc : checkC (N : Int) ps os = 0) (h0 : 0 ≤ l) (hL : l / 2 = (L : Int)) (hLN : L ≤ N + ps.length) :
    Calls Tryd.prog 38 #[circV (N : Int) u v, .int .i64 l] w fun e w' => (∃ z, e = .returned z ∧ BRow w' z (reachL N ps L)) ∧ Below w.heap.size w w' := by
  obtain ⟨hnm, hokp, hoko⟩ := check_zero8 hc
  have HOX : Hid (∀ k, k < ps.length → 0 ≤ (ps.getD k (0, 0)).1 ∧ 0 ≤ (ps.getD k (0, 0)).2 ∧ (ps.getD k (0, 0)).1 / 2 ≤ ((N + k : Nat) : Int) ∧ (ps.getD k (0, 0)).2 / 2 ≤ ((N + k : Nat) : Int)) := fun k hk => by
    have := (okP_iff _ _ _).1 (hokp k hk)
    omega
  obtain ⟨a1, c1, rfl, hu1, hu2, hu3⟩ := hu
  obtain ⟨a2, c2, rfl, hv1, hv2, hv3⟩ := hv
  have HU := Lib.hid hu3
  have HBX := Lib.hid (fun W hW => cirC_box w W (N : Int) (.slice a1 ps.length c1) (.slice a2 os.length c2) hW)
  unfold CirC at HBX
  have HB0 : Hid ((w.alloc (.cells #[.int .i64 (N : Int), .slice a1 ps.length c1, .slice a2 os.length c2] 26)).heap.size = w.heap.size + 1) := by unfold Hid; simp
  rw [← HB0.out] at HBX
  have HRS := Lib.hid (fun k v => reach_step8 (N := N) (k := k) (ps := ps) (v := v))
  have HFIN : Hid (reachN N ps ps.length (seedR (N + ps.length + 1) L) = reachL N ps L) := rfl
  unfold maxLen at hu2
  clear hc hoko hokp hu3 hv3 hv1 hv2
  unfold circV at *
  have hn0 : ¬ l < 0 := by omega
  generalize reachL N ps L = fin at *
  generalize hm : ps.length = m at *
  have HM := Lib.hid hm
  clear hm
  generalize os.length = lo at *
  generalize hK : N + m + 1 = K at *
  have HK := Lib.hid hK
  clear hK
  have hLK : L < K := by have := HK.out; omega
  have hLI : ¬ ((N : Int) + (m : Int) < (L : Int)) := by omega
  have HZ := Lib.hid (fun w2 (hb2 : Below (w.alloc (.cells #[.int .i64 (N : Int), .slice a1 m c1, .slice a2 lo c2] 26)).heap.size (w.alloc (.cells #[.int .i64 (N : Int), .slice a1 m c1, .slice a2 lo c2] 26)) w2) => HBX.out w2 hb2)
  go_enter Tryd.func38, Tryd.ntmps38
  go_wp2_with (at_make; refine wpList_makeG Value.bool false 28 4 1 Tryd.underlying28 infoBool9 rfl (by decide) rfl _ _ rfl _ K (by rw [← HK.out]; rfl) (by rw [← HK.out]; rfl) (by have := HK.out; omega) ?_; intro w2 hcel hb2 hsz2; obtain ⟨⟨t0, t1, t2⟩, hbw2⟩ := HZ.out _ hb2; have z0 := hcel.cells L (by have := HK.out; simp; omega); have zf := hcel.free L; have HC2 := Lib.hid (hcel.set L true); have HB2 := Lib.hid hb2; clear hb2 hbw2 hcel; have hqs : w.heap.size < (w.alloc (.cells #[.int .i64 (N : Int), .slice a1 m c1, .slice a2 lo c2] 26)).heap.size := (by simp); generalize w.alloc (.cells #[.int .i64 (N : Int), .slice a1 m c1, .slice a2 lo c2] 26) = w0 at *; generalize hq : w0.heap.size = q at *)
  have HBW2 := Lib.hid (HB2.out.setCell (show q ≤ (⟨q, L, none⟩ : Addr).block from Nat.le_refl _) (.bool true))
  clear t0 t1 t2 zf z0
  go_loopw [7] (fun i wr => ∃ (k : Nat) (v : List Bool), i = .int .i64 ((k : Int) - 1) ∧ k ≤ m ∧ CelG Value.bool false wr q v ∧ v.length = K ∧ Below q w0 wr ∧ Hid (reachN N ps k v = fin)) (fun i _ => (intOf i + 1).toNat)
  case atStart => exact ⟨m, (List.replicate K false).set L true, rfl, Nat.le_refl _, HC2.out, by simp, HBW2.out, HFIN.out⟩
  case round =>
    obtain ⟨k, v, rfl, hkm, hcel, hvl, hbr, HR⟩ := hrel
    clear HC2 HB2 HBW2 hsz2
    obtain ⟨⟨t0, t1, t2⟩, hbw⟩ := HBX.out _ hbr
    cases k with
    | zero =>
      rw [show (((0 : Nat) : Int) - 1) = -1 from rfl]
      have HR2 : Hid (v = fin) := HR.out
      have HCEL := Lib.hid hcel
      have HBW := Lib.hid hbw
      clear hcel hbr hbw HR
      go_wp2_with fail
      go_ret
      exact ⟨⟨_, rfl, by rw [← HR2.out, ← hvl]; exact HCEL.out.row _ (Nat.le_refl _) (by unfold maxLen; have := HK.out; omega)⟩, HBW.out⟩
    | succ j =>
      rw [show (((j + 1 : Nat) : Int) - 1) = (j : Int) by omega]
      have HST := Lib.hid (HRS.out j v)
      have hjK : N + j + 1 < K := by have := HK.out; omega
      have y0 := hcel.cells (N + j + 1) (by omega)
      cases hvj : v.getD (N + j + 1) false with
      | true =>
        rw [hvj] at y0
        obtain ⟨b, off, ha, hbl, hcl⟩ := HU.out.resolve_left (by omega)
        subst ha
        have hbq : b < q := by omega
        obtain ⟨x0, x1⟩ := hcl j (by omega)
        have g0 := (hbw.cell (p := ⟨b, off + j * 2, none⟩) hbl).trans x0
        have g1 := (hbw.cell (p := ⟨b, off + j * 2 + 1, none⟩) hbl).trans x1
        obtain ⟨o1, o2, o3, o4⟩ := HOX.out j (by omega)
        have HR2 : Hid (reachN N ps j (markR v (ps.getD j (0, 0))) = fin) := by
          have := HST.out
          rw [hvj, if_pos rfl] at this
          exact this.symm.trans HR.out
        clear hvj HR HST hcl x0 x1
        generalize ps.getD j (0, 0) = xy at *
        obtain ⟨x, y⟩ := xy
        simp only at o1 o2 o3 o4 g0 g1
        obtain ⟨X, hX⟩ : ∃ X : Nat, x / 2 = (X : Int) := ⟨(x / 2).toNat, by omega⟩
        obtain ⟨Y, hY⟩ : ∃ Y : Nat, y / 2 = (Y : Int) := ⟨(y / 2).toNat, by omega⟩
        have HMK : Hid (markR v (x, y) = (v.set X true).set Y true) := by unfold Hid markR; simp only; rw [hX, hY]; rfl
        have hXK : X < K := by have := HK.out; omega
        have hYK : Y < K := by have := HK.out; omega
        have f0 := hcel.free X
        have f1 := hcel.free Y
        have z0 := hcel.cells X (by omega)
        have z1 := (hcel.set X true).cells Y (by simp; omega)
        have f2 := (hcel.set X true).free Y
        have HCEL := Lib.hid hcel
        have HBR := Lib.hid hbr
        clear hbw hbr hcel o3 o4
        generalize v.getD X false = vx at *
        generalize (v.set X true).getD Y false = vy at *
        go_wp2_with fail
        go_roundw
        case rel =>
          rw [HMK.out] at HR2
          exact ⟨j, (v.set X true).set Y true, by go_num, by omega, (HCEL.out.set X true).set Y true, by simp [hvl], (HBR.out.setCell (Nat.le_refl _) _).setCell (Nat.le_refl _) _, HR2.out⟩
        case measure => simp [intOf]
      | false =>
        rw [hvj] at y0
        have HR2 : Hid (reachN N ps j v = fin) := by
          have := HST.out
          rw [hvj, if_neg (by decide)] at this
          exact this.symm.trans HR.out
        have HCEL := Lib.hid hcel
        have HBR := Lib.hid hbr
        clear hvj HR HST hcel hbr hbw
        go_wp2_with fail
        go_roundw
        case rel => exact ⟨j, v, by go_num, by omega, HCEL.out, hvl, HBR.out, HR2.out⟩
        case measure => simp [intOf]
end Go.Proofs.YtdmhjpofinnpmaaDoor
