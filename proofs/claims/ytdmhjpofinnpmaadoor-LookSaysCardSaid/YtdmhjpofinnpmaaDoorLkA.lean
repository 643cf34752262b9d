/- Contracts of look's worth, renamed, is, gate and the document's turn: 'worthV', 'renL', yes, the gate's two literals. Conditions: the rows read as those typed; the literals are the circuit's. -/
import Derived.Test.YtdmhjpofinnpmaaDoorLkQ
import Derived.Test.YtdmhjpofinnpmaaDoorSmB
import Derived.Test.YtdmhjpofinnpmaaDoorMkD
namespace Go.Proofs.YtdmhjpofinnpmaaDoor
open Go.RowKit

set_option maxRecDepth 8000 in
set_option maxHeartbeats 1000000 in
theorem lworth_any (v : Value) (xs : List Bool) (l : Int) (w : World) (hv : BRow w v xs) (h0 : 0 ≤ l) (h1 : l < 4611686018427387904) (h2 : l / 2 < (xs.length : Int)) :
    Calls Tryd.prog 35 #[.int .i64 l, v] w fun e w' => e = .returned (.bool (worthV xs l)) ∧ w = w' := by
  obtain ⟨a, c, rfl, hxc, hcm, hx⟩ := hv
  unfold maxLen at hcm
  obtain ⟨k, hk⟩ : ∃ k : Nat, l / 2 = (k : Int) := ⟨(l / 2).toNat, by omega⟩
  have hkl : k < xs.length := by omega
  have HV := Lib.hid (odd_val (xs.getD k false) l h0 h1)
  have HW : Hid (worthV xs l = (xs.getD k false != oddB l)) := by unfold Hid worthV; rw [hk, show ((k : Int)).toNat = k by omega]
  rw [← HW.out] at HV
  obtain ⟨b, off, ha, hbl, hc⟩ := hx.resolve_left (by omega)
  subst ha
  have y0 := hc k hkl
  have hq : l.tdiv 2 = (k : Int) := by rw [Int.tdiv_eq_ediv_of_nonneg h0]; exact hk
  clear hc hx HW
  generalize xs.getD k false = x at *
  generalize worthV xs l = r at *
  generalize xs.length = n at *
  go_enter Tryd.func35, Tryd.ntmps35
  go_wp2_with fail
  go_ret
  exact ⟨ret_bool HV.out, rfl⟩

set_option maxHeartbeats 1000000 in
theorem lren_any (l : Int) (v : Value) (bs : List Int) (w : World) (hv : Row w v bs) (hb : LitsOk bs) (h0 : 0 ≤ l) (h1 : l < 4611686018427387904) (h2 : l / 2 < (bs.length : Int)) :
    Calls Tryd.prog 42 #[.int .i64 l, v] w fun e w' => e = .returned (.int .i64 (renL bs l)) ∧ w = w' := by
  obtain ⟨a, c, rfl, hxc, hcm, hx⟩ := hv
  unfold maxLen at hcm
  obtain ⟨k, hk⟩ : ∃ k : Nat, l / 2 = (k : Int) := ⟨(l / 2).toNat, by omega⟩
  have hkl : k < bs.length := by omega
  have HV := Lib.hid (renL_val bs l h0 h1 hb)
  rw [hk, show ((k : Int)).toNat = k by omega] at HV
  obtain ⟨b, off, ha, hbl, hc⟩ := hx.resolve_left (by omega)
  subst ha
  have y0 := hc k hkl
  clear hc hx
  have hq : l.tdiv 2 = (k : Int) := by rw [Int.tdiv_eq_ediv_of_nonneg h0]; exact hk
  generalize bs.getD k 0 = x at *
  generalize renL bs l = r at *
  generalize bs.length = n at *
  go_enter Tryd.func42, Tryd.ntmps42
  go_wp2_with fail
  go_ret
  exact ⟨ret_int HV.out, rfl⟩

/-- A literal, or its opposite. -/
def turnI (x l : Int) : Int := if l % 2 = 0 then x else notI x

set_option maxHeartbeats 1000000 in
theorem turn_any (x l : Int) (w : World) (hx0 : 0 ≤ x) (hx1 : x < 4611686018427387904) (h0 : 0 ≤ l) (h1 : l < 4611686018427387904) :
    Calls Tryd.prog 44 #[.int .i64 x, .int .i64 l] w fun e w' => e = .returned (.int .i64 (turnI x l)) ∧ w = w' := by
  have HV : Hid (bits .xor .i64 x (bits .and .i64 l 1) = turnI x l) := by
    unfold Hid turnI
    rw [and_oneI l h0 h1]
    exact xor_bit _ l hx0 hx1 (by omega)
  have hn : ¬ x < 0 := by omega
  generalize turnI x l = r at *
  go_enter Tryd.func44, Tryd.ntmps44
  go_wp2_with fail
  go_ret
  exact ⟨ret_int HV.out, rfl⟩

set_option maxRecDepth 8000 in
set_option maxHeartbeats 2000000 in
theorem lis_yes (A : Nat → Addr) (N : Nat) (u v : Value) (ps : List (Int × Int)) (os : List Int) (l : Int) (w : World) (hs : Sents2 w A) (hu : PRow w u ps) (hv : Row w v os) (hol : os.length ≤ 1000000) (hob : ∀ o ∈ os, in64 o) (hc : checkC (N : Int) ps os = 0) (h0 : 0 ≤ l) (h1 : l / 2 ≤ ((N + ps.length : Nat) : Int)) :
    Calls Tryd.prog 39 #[circV (N : Int) u v, .int .i64 l] w fun e w' => e = .returned (.bool true) ∧ Below w.heap.size w w' := by
  obtain ⟨hnm, hokp, hoko⟩ := check_zero8 hc
  have HCK := Lib.hid (fun W (hW : Below w.heap.size w W) => gcheck_any A (N : Int) u v ps os W (hs.keep hW) (hu.keep hW) (hv.keep hW) ⟨by omega, by omega⟩ (by omega) hol (okP_in hnm hokp) hob)
  rw [hc, show errC A 0 = .nilIface from rfl] at HCK
  obtain ⟨a1, c1, rfl, hu1, hu2, hu3⟩ := hu
  obtain ⟨a2, c2, rfl, hv1, hv2, hv3⟩ := hv
  unfold maxLen at hu2 hv2
  have HBX := Lib.hid (fun W hW => cirC_box w W (N : Int) (.slice a1 ps.length c1) (.slice a2 os.length c2) hW)
  unfold CirC at HBX
  have HB0 : Hid ((w.alloc (.cells #[.int .i64 (N : Int), .slice a1 ps.length c1, .slice a2 os.length c2] 26)).heap.size = w.heap.size + 1) := by unfold Hid; simp
  rw [← HB0.out] at HBX
  clear hc hoko hokp hu3 hv3 hs hob
  unfold circV at *
  have hq : l.tdiv 2 = l / 2 := Int.tdiv_eq_ediv_of_nonneg h0
  generalize ps.length = m at *
  generalize os.length = lo at *
  have hl2 : ¬ ((N : Int) + (m : Int) < l / 2) := by omega
  have hd0 : decide (0 ≤ l) = true := decide_eq_true h0
  have hd1 : decide (l / 2 ≤ (N : Int) + (m : Int)) = true := decide_eq_true (by omega)
  go_enter Tryd.func39, Tryd.ntmps39
  go_wp2_with fail
  generalize w.alloc (.cells #[.int .i64 (N : Int), .slice a1 m c1, .slice a2 lo c2] 26) = w0 at *
  refine (HCK.out _ (HBX.out _ (Below.refl _ _)).2).mono ?_
  rintro e w1 ⟨rfl, hb1⟩
  obtain ⟨⟨k0, k1, k2⟩, hbw⟩ := HBX.out _ hb1
  go_wp2_with fail
  go_ret
  exact ⟨rfl, hbw⟩

theorem two_new (W : World) (q : Nat) (hq : W.heap.size = q) (a b : Value) (T : TypeId) : (W.alloc (.cells #[a, b] T)).cell? ⟨q, 0, none⟩ = some a ∧ (W.alloc (.cells #[a, b] T)).cell? ⟨q, 1, none⟩ = some b := by
  subst hq
  constructor
  · rw [cell_of_row _ _ 0 _ T (0, 0) (heap_alloc_new W _)]; rfl
  · rw [cell_of_row _ _ 1 _ T (0, 0) (heap_alloc_new W _)]; rfl

theorem gate_ret (W : World) (q : Nat) (v0 v1 : Value) (tmps : Array Value) (ht : tmps.getD 4 undef = .pointer (some ⟨q, 0, none⟩)) (h : W.cell? ⟨q, 0, none⟩ = some v0 ∧ W.cell? ⟨q, 1, none⟩ = some v1) :
    (results Tryd.f40 tmps).run Tryd.prog W = .ok (.agg #[v0, v1]) W := by
  obtain ⟨h0, h1⟩ := h
  rw [Array.getD_eq_getD_getElem?] at ht
  simp [results, Tryd.results40, go_sem, ht, h0, h1]

set_option maxRecDepth 8000 in
set_option maxHeartbeats 2000000 in
theorem lgate_any (N n : Nat) (u v : Value) (ps : List (Int × Int)) (w : World) (hu : PRow w u ps) (hn : N + ps.length ≤ 8000) (h1 : N < n) (h2 : n ≤ N + ps.length) :
    Calls Tryd.prog 40 #[circV (N : Int) u v, .int .i64 (n : Int)] w fun e w' => e = .returned (.agg #[.int .i64 (ps.getD (n - N - 1) (0, 0)).1, .int .i64 (ps.getD (n - N - 1) (0, 0)).2]) ∧ Below w.heap.size w w' := by
  obtain ⟨a1, c1, rfl, hu1, hu2, hu3⟩ := hu
  unfold maxLen at hu2
  obtain ⟨q, off, ha, hql, hcl⟩ := hu3.resolve_left (by omega)
  subst ha
  obtain ⟨x0, x1⟩ := hcl (n - N - 1) (by omega)
  clear hcl hu3
  have HBX := Lib.hid (fun W hW => cirC_box w W (N : Int) (.slice (some ⟨q, off, none⟩) ps.length c1) v hW)
  unfold CirC at HBX
  unfold circV at *
  generalize ps.length = m at *
  generalize ps.getD (n - N - 1) (0, 0) = xy at *
  obtain ⟨x, y⟩ := xy
  simp only at x0 x1 ⊢
  have HW2 : Hid (Below w.heap.size w ((w.alloc (.cells #[.int .i64 (N : Int), .slice (some ⟨q, off, none⟩) m c1, v] 26)).alloc (.cells #[.int .i64 x, .int .i64 y] 49))) := ((Below.refl _ w).alloc (Nat.le_refl _) _).alloc (by simp) _
  have HA := Lib.hid ((Below.refl (w.heap.size + 1) (w.alloc (.cells #[.int .i64 (N : Int), .slice (some ⟨q, off, none⟩) m c1, v] 26))).alloc (by simp) (.cells #[.int .i64 0, .int .i64 0] 49))
  obtain ⟨⟨k0, k1, k2⟩, hbw⟩ := HBX.out _ HA.out
  have y0 := (hbw.cell (p := ⟨q, off + (n - N - 1) * 2, none⟩) hql).trans x0
  have y1 := (hbw.cell (p := ⟨q, off + (n - N - 1) * 2 + 1, none⟩) hql).trans x1
  have HBW := Lib.hid hbw
  clear hbw x0 x1 HBX HA
  go_enter Tryd.func40, Tryd.ntmps40
  go_wp2_with fail
  exact bodyPost_ret (v := .agg #[.int .i64 x, .int .i64 y]) (gate_ret _ (w.heap.size + 1) _ _ _ rfl (two_new _ (w.heap.size + 1) (by simp) _ _ _)) rfl ⟨rfl, HW2.out⟩
end Go.Proofs.YtdmhjpofinnpmaaDoor
