/- The contract of slow.table.wins: no inner values turn what the outer ones make. Conditions: the table's clauses lie in memory; few variables. -/
import Derived.Test.YtcodmijphejfdaaDoorRest
import Derived.Test.YtcodmijphejfdaaDoorNormG
import Derived.Deep.RegionHeld3
namespace Go.Proofs.YtcodmijphejfdaaDoor
open Go.RowKit

theorem pow20 {n : Nat} (h : n ≤ 20) : 2 ^ n ≤ 1048576 := Nat.le_trans (Nat.pow_le_pow_right (by omega) h) (by decide)
theorem shl_wrap (i n : Nat) (h : i * 2 ^ n < 4611686018427387904) : wrap64 ((i : Int) * 2 ^ n) = ((i * 2 ^ n : Nat) : Int) := by
  have h3 : ((2 : Int) ^ n) = ((2 ^ n : Nat) : Int) := by simp
  rw [h3]
  generalize 2 ^ n = t at *
  have h4 : (i : Int) * (t : Int) = ((i * t : Nat) : Int) := by simp
  rw [h4]
  generalize i * t = s at *
  unfold wrap64
  omega
theorem pow_wrap (n : Nat) (h : n ≤ 20) : wrap64 ((2 : Int) ^ n) = ((2 ^ n : Nat) : Int) := by
  have := shl_wrap 1 n (by have := pow20 h; omega)
  simpa using this

set_option maxRecDepth 8000 in
set_option maxHeartbeats 4000000 in
theorem tabWins_any (a : Option Addr) (c : Nat) (ds : List Mk) (ex : Bool) (outer inner o : Nat) (w : World) (hv : RowM w (.slice a ds.length c) ds) (ho : o < 2 ^ outer) (hs : outer + inner ≤ 20) :
    Calls Tryd.prog 44 #[.agg #[.slice a ds.length c, .bool ex, .int .i64 (outer : Int), .int .i64 (inner : Int)], .int .i64 (o : Int)] w fun e w' => e = .returned (.bool (winD ds ex outer inner o)) ∧ Below w.heap.size w w' := by
  have HH := Lib.hid (fun n W (hW : Below w.heap.size w W) => hold_any (.slice a ds.length c) ds n W (hv.keep hW))
  have HCX : Hid (∀ W, Below (w.heap.size + 1) (w.alloc (.cells #[.slice a ds.length c, .bool ex, .int .i64 (outer : Int), .int .i64 (inner : Int)] 81)) W → (W.cell? ⟨w.heap.size, 0, none⟩ = some (.slice a ds.length c) ∧ W.cell? ⟨w.heap.size, 1, none⟩ = some (.bool ex) ∧ W.cell? ⟨w.heap.size, 2, none⟩ = some (.int .i64 (outer : Int)) ∧ W.cell? ⟨w.heap.size, 3, none⟩ = some (.int .i64 (inner : Int))) ∧ Below w.heap.size w W) := fun W h =>
    ⟨(cells4 w W _ _ _ _ 81 (by simpa using h)).1, ((Below.refl _ w).alloc (Nat.le_refl _) _).trans (h.mono (by omega))⟩
  have HNO := Lib.hid (fun i (hi : i < 2 ^ inner) h => @winD_no ds ex outer inner o i hi h)
  have HYES := Lib.hid (@winD_yes ds ex outer inner o)
  have HPO := Lib.hid (pow20 (show outer ≤ 20 by omega))
  have HP2 : Hid (∀ i, i < 2 ^ inner → i * 2 ^ outer + o < 4611686018427387904) := fun i hi => by
    have h1 : 2 ^ inner * 2 ^ outer ≤ 1048576 := by rw [← Nat.pow_add]; exact pow20 (by omega)
    have h2 : (i + 1) * 2 ^ outer ≤ 2 ^ inner * 2 ^ outer := Nat.mul_le_mul_right _ hi
    rw [Nat.add_mul] at h2
    have := HPO.out
    show _ < _
    omega
  have HOR : Hid (∀ i : Nat, i < 2 ^ inner → bits .or .i64 (IntKind.i64.wrap ((i : Int) * 2 ^ outer)) (o : Int) = ((i * 2 ^ outer + o : Nat) : Int)) := fun i hi => by
    have := HP2.out i hi
    have h2 := shl_wrap i outer (by omega)
    unfold wrap64 at h2
    rw [IntKind.wrap_i64, h2]
    exact or_join i o outer ho this
  have hpi := pow_wrap inner (by omega)
  have hpb := pow20 (show inner ≤ 20 by omega)
  generalize hT : 2 ^ inner = T at *
  clear hT ho
  generalize winD ds ex outer inner o = r at *
  generalize ds.length = nd at *
  go_enter Tryd.func44, Tryd.ntmps44
  go_wp2_with fail
  generalize hwA : w.alloc (.cells #[.slice a nd c, .bool ex, .int .i64 (outer : Int), .int .i64 (inner : Int)] 81) = wA at *
  have hsA : wA.heap.size = w.heap.size + 1 := by rw [← hwA]; simp
  clear hwA
  rw [hpi]
  clear hpi
  go_loopw [5, 9] (fun _ i wr => ∃ k : Nat, k ≤ T ∧ i = .int .i64 k ∧ Below (w.heap.size + 1) wA wr ∧ Hid (∀ j, j < k → holdD ds (j * 2 ^ outer + o) = ex)) (fun _ i _ => T - (intOf i).toNat)
  case atStart => exact ⟨0, Nat.zero_le _, rfl, Below.refl _ _, fun j hj => absurd hj (Nat.not_lt_zero _)⟩
  case round =>
    obtain ⟨k, hk, rfl, hbr, HQ⟩ := hrel
    obtain ⟨⟨c0, c1, c2, c3⟩, hbw⟩ := HCX.out wr hbr
    by_cases hlt : k < T
    · have HHK : Hid (∀ W, Below w.heap.size w W → Calls Tryd.prog 62 #[.slice a nd c, .int .i64 (bits .or .i64 (IntKind.i64.wrap ((k : Int) * 2 ^ outer)) (o : Int))] W fun e w' => e = .returned (.bool (holdD ds (k * 2 ^ outer + o))) ∧ Below W.heap.size W w') := fun W hW => by
        rw [HOR.out k hlt]
        exact HH.out (k * 2 ^ outer + o) W hW
      have HNK := Lib.hid (HNO.out k hlt)
      have HQ1 : Hid (holdD ds (k * 2 ^ outer + o) = ex → ∀ j, j < k + 1 → holdD ds (j * 2 ^ outer + o) = ex) := fun h j hj => by
        by_cases e : j = k
        · subst e; exact h
        · exact HQ.out j (by omega)
      generalize hq : k * 2 ^ outer + o = q at *
      clear hq
      have HWA := Lib.hid hbr
      have HBW := Lib.hid hbw
      have hsw := hbw.size
      have hsw1 := hbr.size
      rw [hsA] at hsw1
      have HKP : Hid (∀ W, Below (w.heap.size + 1) wA W → W.cell? ⟨w.heap.size, 0, none⟩ = some (.slice a nd c) ∧ W.cell? ⟨w.heap.size, 1, none⟩ = some (.bool ex) ∧ W.cell? ⟨w.heap.size, 2, none⟩ = some (.int .i64 (outer : Int))) := fun W h => ⟨(HCX.out W h).1.1, (HCX.out W h).1.2.1, (HCX.out W h).1.2.2.1⟩
      clear hbr hbw
      generalize hh : holdD ds q = t at *
      clear hh
      cases hte : (t != ex) with
      | true =>
        have hte2 : (t == ex) = false := by simpa using hte
        have HF := Lib.hid (HNK.out (by simpa using hte))
        clear HQ1 HNK
        go_wp2_with fail
        go_region_held3 (fun W => W.cell? ⟨w.heap.size, 0, none⟩ = some (.slice a nd c) ∧ W.cell? ⟨w.heap.size, 1, none⟩ = some (.bool ex) ∧ W.cell? ⟨w.heap.size, 2, none⟩ = some (.int .i64 (outer : Int))) (first | exact HKP.out _ HWA.out | exact HKP.out _ HWA.out.drew | exact HKP.out _ (below_drewN HWA.out _) | exact HKP.out _ hb3) (first
          | (go_at_call 62; refine (HHK.out _ (by first | exact HBW.out.drew | exact HBW.out | exact below_drewN HBW.out _)).mono ?_; rintro e w2 ⟨rfl, hw2⟩; have hb3 := (show Below (w.heap.size + 1) wA _ from by first | exact HWA.out.drew | exact below_drewN HWA.out _ | exact HWA.out).trans (hw2.mono (by simpa using hsw1))))
        all_goals go_wp2_with fail
        all_goals go_ret
        all_goals exact ⟨ret_bool HF.out.symm, (HCX.out _ hb3).2⟩
      | false =>
        have HQ2 := Lib.hid (HQ1.out (by simpa using hte))
        have hte2 : (t == ex) = true := by simpa using hte
        clear HQ1 HNK
        go_wp2_with fail
        go_region_held3 (fun W => W.cell? ⟨w.heap.size, 0, none⟩ = some (.slice a nd c) ∧ W.cell? ⟨w.heap.size, 1, none⟩ = some (.bool ex) ∧ W.cell? ⟨w.heap.size, 2, none⟩ = some (.int .i64 (outer : Int))) (first | exact HKP.out _ HWA.out | exact HKP.out _ HWA.out.drew | exact HKP.out _ (below_drewN HWA.out _) | exact HKP.out _ hb3) (first
          | (go_at_call 62; refine (HHK.out _ (by first | exact HBW.out.drew | exact HBW.out | exact below_drewN HBW.out _)).mono ?_; rintro e w2 ⟨rfl, hw2⟩; have hb3 := (show Below (w.heap.size + 1) wA _ from by first | exact HWA.out.drew | exact below_drewN HWA.out _ | exact HWA.out).trans (hw2.mono (by simpa using hsw1))))
        all_goals go_wp2_with fail
        all_goals exact ⟨⟨k + 1, by omega, by go_num, hb3, HQ2.out⟩, by simp [intOf]; omega⟩
    · have hkT : k = T := by omega
      subst hkT
      have HA := Lib.hid (HYES.out HQ.out)
      have HBW := Lib.hid hbw
      clear hlt hbr hbw HQ HYES HNO
      go_wp2_with fail
      go_ret
      exact ⟨ret_bool HA.out.symm, HBW.out⟩
end Go.Proofs.YtcodmijphejfdaaDoor
