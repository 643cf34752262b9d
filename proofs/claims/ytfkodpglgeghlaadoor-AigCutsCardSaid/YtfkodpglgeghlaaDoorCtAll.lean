/- The law AigCuts: true for whatever arguments. Conditions: the slices read as 64-bit ints; the errors lie as 'Sents' says; the table of powers of ten is as the program lays it. -/
import Derived.Test.YtfkodpglgeghlaaDoorCqM
import Derived.Test.YtfkodpglgeghlaaDoorGbM
import Derived.Deep.RegionHeld3
namespace Go.Proofs.YtfkodpglgeghlaaDoor
open Go.RowKit

set_option maxRecDepth 8000 in
set_option maxHeartbeats 4000000 in
theorem lawCt_out (A : Nat → Addr) (i k : Int) (a1 : Option Addr) (c1 m1 : Nat) (a2 : Option Addr) (c2 m2 : Nat) (a3 : Option Addr) (c3 m3 : Nat) (w : World) (hS : Sents w A) (ht : Tabs w) (ho : 60 < m1 ∨ 60 < m2 ∨ 9 < m3 ∨ i < 0 ∨ 30 < i) :
    Calls Tryd.prog 4 #[.int .i64 i, .slice a1 m1 c1, .slice a2 m2 c2, .slice a3 m3 c3, .int .i64 k] w fun e w' => e = .returned (.bool true) ∧ Below w.heap.size w w' := by
  have HF := Lib.hid (first12_any A w hS ht)
  clear hS ht
  by_cases d1 : 60 < m1
  · have d1' : decide ((60 : Int) < (m1 : Int)) = true := decide_eq_true (by omega)
    clear ho
    go_enter Tryd.func4, Tryd.ntmps4
    go_wp2_with (go_at_call 9; refine HF.out.mono ?_; rintro e w1 ⟨rfl, hb1⟩)
    go_ret
    exact ⟨rfl, hb1⟩
  have d1' : decide ((60 : Int) < (m1 : Int)) = false := decide_eq_false (by omega)
  by_cases d2 : 60 < m2
  · have d2' : decide ((60 : Int) < (m2 : Int)) = true := decide_eq_true (by omega)
    clear ho
    go_enter Tryd.func4, Tryd.ntmps4
    go_wp2_with (go_at_call 9; refine HF.out.mono ?_; rintro e w1 ⟨rfl, hb1⟩)
    go_ret
    exact ⟨rfl, hb1⟩
  have d2' : decide ((60 : Int) < (m2 : Int)) = false := decide_eq_false (by omega)
  by_cases d3 : 9 < m3
  · have d3' : decide ((9 : Int) < (m3 : Int)) = true := decide_eq_true (by omega)
    clear ho
    go_enter Tryd.func4, Tryd.ntmps4
    go_wp2_with (go_at_call 9; refine HF.out.mono ?_; rintro e w1 ⟨rfl, hb1⟩)
    go_ret
    exact ⟨rfl, hb1⟩
  have d3' : decide ((9 : Int) < (m3 : Int)) = false := decide_eq_false (by omega)
  by_cases d4 : i < 0
  · clear ho
    go_enter Tryd.func4, Tryd.ntmps4
    go_wp2_with (go_at_call 9; refine HF.out.mono ?_; rintro e w1 ⟨rfl, hb1⟩)
    go_ret
    exact ⟨rfl, hb1⟩
  · have d5 : 30 < i := by omega
    clear ho
    go_enter Tryd.func4, Tryd.ntmps4
    go_wp2_with (go_at_call 9; refine HF.out.mono ?_; rintro e w1 ⟨rfl, hb1⟩)
    go_ret
    exact ⟨rfl, hb1⟩
theorem RightC.bdB {i : Nat} {ps : List (Int × Int)} {os : List Int} (h : RightC i ps os) : (∀ j, j < ps.length → 0 ≤ (ps.getD j (0, 0)).2 ∧ (ps.getD j (0, 0)).2 ≤ (ps.getD j (0, 0)).1 ∧ (ps.getD j (0, 0)).1 ≤ 2 * ((i : Int) + j + 1) - 1) ∧ ∀ o ∈ os, 0 ≤ o ∧ o < 1000000000 := ⟨h.2.2.1, h.bd.2⟩
theorem take_row {W : World} {a : Option Addr} {n c m : Nat} {T : List Int} (h : RowG (Value.int .u8) 0 W (.slice a n c) T) (hm : m ≤ n) (h0 : 0 < n) : RowG (Value.int .u8) 0 W (.slice a m c) (T.take m) := by
  obtain ⟨a9, c9, e9, h9, h10, h11⟩ := h
  injection e9 with q1 q2 q3
  have hl : (T.take m).length = m := by rw [List.length_take]; omega
  refine ⟨a, c, by rw [hl], by rw [hl]; omega, by omega, ?_⟩
  rcases h11 with h11 | ⟨b, off, e, hb, hc⟩
  · omega
  · refine .inr ⟨b, off, by rw [q1, e], hb, fun i hi => ?_⟩
    rw [hc i (by omega)]
    refine congrArg (fun z => some (Value.int IntKind.u8 z)) ?_
    rw [hl] at hi
    simp [List.getD, hi]
theorem row_cap {W : World} {a : Option Addr} {n c : Nat} {T : List Int} (h : RowG (Value.int .u8) 0 W (.slice a n c) T) : n ≤ c ∧ c ≤ 9223372036854775807 := by
  obtain ⟨a9, c9, e9, h9, h10, _⟩ := h
  injection e9 with q1 q2 q3
  unfold maxLen at h10
  omega
theorem textB_pos (i : Nat) (ps : List (Int × Int)) (os : List Int) : 0 < (textB i ps os).length := by
  unfold textB headB
  simp only [List.length_append, List.length_cons]
  omega
theorem same_iff {N : Nat} {ps qs : List (Int × Int)} {os us : List Int} (h1 : RightC N ps os) (h2 : RightC N qs us) : decide (((N : Int), ps, os) = ((N : Int), qs, us)) = decide (textB N ps os = textB N qs us) := by
  by_cases e : textB N ps os = textB N qs us
  · obtain ⟨_, e1, e2⟩ := textB_inj h1 h2 e
    rw [decide_eq_true e, decide_eq_true (by rw [e1, e2])]
  · rw [decide_eq_false e, decide_eq_false (fun h => e (by injection h with _ h; injection h with h3 h4; rw [h3, h4]))]

set_option maxRecDepth 8000 in
set_option maxHeartbeats 8000000 in
theorem lawCt_in (A : Nat → Addr) (N : Nat) (k : Int) (a1 : Option Addr) (c1 : Nat) (ls : List Int) (a2 : Option Addr) (c2 : Nat) (ms : List Int) (a3 : Option Addr) (c3 : Nat) (ts : List Int) (w : World) (hS : Sents w A) (ht : Tabs w)
    (hl : RowAt w a1 c1 ls) (hlb : ∀ y ∈ ls, in64 y) (hm : RowAt w a2 c2 ms) (hmb : ∀ y ∈ ms, in64 y) (hts : RowAt w a3 c3 ts) (htb : ∀ y ∈ ts, in64 y) (e1 : ¬ 60 < ls.length) (e2 : ¬ 60 < ms.length) (e3 : ¬ 9 < ts.length) (e5 : ¬ (30 : Int) < (N : Int)) (hk64 : in64 k) :
    Calls Tryd.prog 4 #[.int .i64 (N : Int), .slice a1 ls.length c1, .slice a2 ms.length c2, .slice a3 ts.length c3, .int .i64 k] w fun e w' => e = .returned (.bool true) ∧ Below w.heap.size w w' := by
  have d1 : decide ((60 : Int) < (ls.length : Int)) = false := decide_eq_false (by omega)
  have d2 : decide ((60 : Int) < (ms.length : Int)) = false := decide_eq_false (by omega)
  have d3 : decide ((9 : Int) < (ts.length : Int)) = false := decide_eq_false (by omega)
  have d4 : ¬ (N : Int) < 0 := by omega
  have HF := Lib.hid (first12_any A w hS ht)
  have HMK := Lib.hid (fun W (hW : Below w.heap.size w W) => mkc_any N (.slice a1 ls.length c1) (.slice a3 ts.length c3) ls ts W (Row.keep ⟨a1, c1, rfl, hl⟩ hW) (Row.keep ⟨a3, c3, rfl, hts⟩ hW) (by omega) (by omega) (by omega) hlb htb)
  have HMD := Lib.hid (fun W (hW : Below w.heap.size w W) => mkc_any N (.slice a2 ms.length c2) (.slice a3 ts.length c3) ms ts W (Row.keep ⟨a2, c2, rfl, hm⟩ hW) (Row.keep ⟨a3, c3, rfl, hts⟩ hW) (by omega) (by omega) (by omega) hmb htb)
  have HSN := Lib.hid (fun W (hW : Below w.heap.size w W) => hS.keep hW)
  have HTN := Lib.hid (fun W (hW : Below w.heap.size w W) => ht.keep hW)
  have HE := Lib.hid (And.intro e1 (And.intro e2 (And.intro e3 e5)))
  clear hS ht hl hlb hm hmb hts htb e1 e2 e3
  generalize hn1 : ls.length = n1 at *
  generalize hn2 : ms.length = n2 at *
  generalize hn3 : ts.length = n3 at *
  clear hn1 hn2 hn3
  go_enter Tryd.func4, Tryd.ntmps4
  go_wp2_with fail
  refine HF.out.mono ?_
  rintro e w1 ⟨rfl, hb1⟩
  have HB1 := Lib.hid hb1
  clear hb1 HF
  go_wp2_with fail
  refine (HMK.out _ HB1.out).mono ?_
  rintro e w2 ⟨⟨u, v, ps, os, rfl, hU, hV, hR, hpl, hol⟩, hb2⟩
  have HB2 := Lib.hid (bb_step HB1.out hb2)
  have HR := Lib.hid hR
  have HLN : Hid ((textB N ps os).length ≤ 3000) := textB_len hR (by omega) (by have := HE.out; omega) (by have := HE.out; omega)
  have HPO : Hid (ps.length ≤ 1000 ∧ os.length ≤ 1000) := by unfold Hid; have := HE.out; omega
  obtain ⟨au, cu, rfl, hu⟩ := hU
  obtain ⟨av, cv, rfl, hv⟩ := hV
  have hal : Below w2.heap.size w2 (w2.alloc (.cells #[.int .i64 (N : Int), .slice au ps.length cu, .slice av os.length cv] 27)) := (Below.refl _ w2).alloc (Nat.le_refl _) _
  have HC := Lib.hid (Cq.new (n := (N : Int)) 27 (⟨au, cu, rfl, hu⟩ : PRow w2 (.slice au ps.length cu) ps) (⟨av, cv, rfl, hv⟩ : Row w2 (.slice av os.length cv) os))
  have HB3 := Lib.hid (bb_step HB2.out hal)
  clear hb2 hu hv hR HMK HB1 hpl hol hal
  unfold circV
  go_wp2_with fail
  refine (HMD.out _ HB3.out).mono ?_
  rintro e w3 ⟨⟨u, v, qs, us, rfl, hU, hV, hR, hpl, hol⟩, hb3⟩
  have HRD := Lib.hid hR
  have HPD : Hid (qs.length ≤ 1000 ∧ us.length ≤ 1000) := by unfold Hid; have := HE.out; omega
  obtain ⟨au2, cu2, rfl, hu⟩ := hU
  obtain ⟨av2, cv2, rfl, hv⟩ := hV
  have hal : Below w3.heap.size w3 (w3.alloc (.cells #[.int .i64 (N : Int), .slice au2 qs.length cu2, .slice av2 us.length cv2] 27)) := (Below.refl _ w3).alloc (Nat.le_refl _) _
  have hd3 := Cq.new (n := (N : Int)) 27 (⟨au2, cu2, rfl, hu⟩ : PRow w3 (.slice au2 qs.length cu2) qs) (⟨av2, cv2, rfl, hv⟩ : Row w3 (.slice av2 us.length cv2) us)
  have hc3 := (HC.out.keep hb3).keep hal
  have hb4 := bb_step (bb_step HB3.out hb3) hal
  generalize hA : w3.alloc (.cells #[.int .i64 (N : Int), .slice au2 qs.length cu2, .slice av2 us.length cv2] 27) = w4 at *
  have HC4 := Lib.hid hc3
  have HD4 := Lib.hid hd3
  have HB4 := Lib.hid hb4
  obtain ⟨q0, q1, q2, _, _, q3⟩ := hc3
  clear hb3 hu hv hR hpl hol hal hd3 hb4 HC HB3 HMD
  unfold circV
  go_wp2_with fail
  clear hA q0 q1 q2 q3
  refine (gbyt_any N _ _ ps os _ HC4.out.U HC4.out.V (by omega) HPO.out.1 HPO.out.2 HR.out.bdB.1 HR.out.bdB.2 (HTN.out _ HB4.out)).mono ?_
  rintro e w5 ⟨vb, rfl, hown5, hb5⟩
  obtain ⟨ab, cb, rfl, hrw5⟩ := text_row hown5
  have HRW5 := Lib.hid hrw5
  have HB5 := Lib.hid (bb_step HB4.out hb5)
  have HC5 := Lib.hid (HC4.out.keep hb5)
  have HD5 := Lib.hid (HD4.out.keep hb5)
  have HBT := Lib.hid (textB_bts N ps os)
  have HCT := Lib.hid (fun m (hm : m < (textB N ps os).length) => readG_cut N ps os m HR.out hm)
  have HSI := Lib.hid (same_iff HR.out HRD.out)
  have HBY := Lib.hid (fun u v W (hW : Below w.heap.size w W) (hU : PRow W u qs) (hV : Row W v us) => gbyt_any N u v qs us W hU hV (by omega) HPD.out.1 HPD.out.2 HRD.out.bdB.1 HRD.out.bdB.2 (HTN.out _ hW))
  have h0 := textB_pos N ps os
  have hcb := row_cap hrw5
  clear hown5 hb5 hrw5 HC4 HD4 HB4 HB2 HR HRD HPO HPD HTN
  generalize textB N ps os = T at *
  generalize textB N qs us = T' at *
  have HDT := Lib.hid (fun W v m (hW : Below w.heap.size w W) (hv : RowG (Value.int .u8) 0 W v (T.take m)) => greadA_any A v (T.take m) W (HSN.out W hW) hv (HBT.out.take m) (by rw [List.length_take]; have := HLN.out; omega))
  generalize hnT : T.length = nT at *
  have HNT := Lib.hid hnT
  have hlT : nT ≤ 3000 := HLN.out
  obtain ⟨hcb1, hcb2⟩ := hcb
  clear hnT HLN HBT
  have HDV : Hid (∀ m : Nat, m < nT → Calls Tryd.prog 12 #[.slice ab m cb] w5 (ReadP A w5 (readG (T.take m))) ∧ okR (readG (T.take m)) = false) := fun m hm => ⟨HDT.out w5 _ m HB5.out (take_row HRW5.out (by omega) h0), HCT.out m hm⟩
  have HTM : Hid (∀ K : Nat, ∃ m : Nat, (K : Int).tmod (nT : Int) = (m : Int) ∧ m < nT) := fun K => by
    have h1 : (K : Int).tmod (nT : Int) = (K : Int) % (nT : Int) := Int.tmod_eq_emod_of_nonneg (by omega)
    have h2 := Int.emod_nonneg (K : Int) (show (nT : Int) ≠ 0 by omega)
    have h3 := Int.emod_lt_of_pos (K : Int) (show (0 : Int) < (nT : Int) by omega)
    exact ⟨((K : Int).tmod (nT : Int)).toNat, by rw [h1]; omega, by rw [h1]; omega⟩
  clear HDT HCT
  have hnz : ((nT : Int) == 0) = false := by simp; omega
  by_cases hk : k < 0
  · obtain ⟨K, hK⟩ : ∃ K : Nat, wrap64 (-wrap64 (k + 1)) = (K : Int) := ⟨(-(k + 1)).toNat, by
      unfold in64 at hk64
      rw [IntWalk.wrap64_in (k + 1) (by omega), IntWalk.wrap64_in _ (by omega)]; omega⟩
    obtain ⟨m, hm, hml⟩ := HTM.out K
    go_wp2_with fail
    obtain ⟨hcall, hok⟩ := HDV.out m hml
    generalize readG (T.take m) = R at hcall hok
    obtain ⟨⟨n', ys, xs'⟩, f⟩ := R
    refine hcall.mono ?_
    rintro e w6 ⟨⟨u, v, ev, rfl, hU, hV, hO⟩, hb6⟩
    clear hcall
    cases f with
    | none => cases hok
    | some f =>
      obtain ⟨bb, hB, rfl, k0, k1⟩ := hO
      clear k0 k1 hok
      obtain ⟨ux, uc, rfl, hU'⟩ := hU
      obtain ⟨vx, vc, rfl, hV'⟩ := hV
      have hal : Below w6.heap.size w6 (w6.alloc (.cells #[.int .i64 n', .slice ux ys.length uc, .slice vx xs'.length vc] 27)) := (Below.refl _ w6).alloc (Nat.le_refl _) _
      have h7 := bb_step hb6 hal
      generalize hA : w6.alloc (.cells #[.int .i64 n', .slice ux ys.length uc, .slice vx xs'.length vc] 27) = w7 at *
      have HQ : Hid (∀ W, Below w7.heap.size w7 W → (Cq W w2.heap.size N (.slice au ps.length cu) (.slice av os.length cv) ps os ∧ Cq W w3.heap.size N (.slice au2 qs.length cu2) (.slice av2 us.length cv2) qs us) ∧ RowG (Value.int .u8) 0 W (.slice ab nT cb) T ∧ Below w.heap.size w W) := fun W hW => by
        have hb := bb_step h7 hW
        exact ⟨⟨HC5.out.keep hb, HD5.out.keep hb⟩, HRW5.out.keep hb, bb_step HB5.out hb⟩
      have HK : Hid (∀ W, Below w7.heap.size w7 W → (W.cell? ⟨w2.heap.size, 0, none⟩ = some (.int .i64 (N : Int)) ∧ W.cell? ⟨w2.heap.size, 1, none⟩ = some (.slice au ps.length cu) ∧ W.cell? ⟨w2.heap.size, 2, none⟩ = some (.slice av os.length cv)) ∧ W.cell? ⟨w3.heap.size, 0, none⟩ = some (.int .i64 (N : Int)) ∧ W.cell? ⟨w3.heap.size, 1, none⟩ = some (.slice au2 qs.length cu2) ∧ W.cell? ⟨w3.heap.size, 2, none⟩ = some (.slice av2 us.length cv2)) := fun W hW => by
        obtain ⟨⟨h1, h2⟩, _⟩ := HQ.out W hW
        exact ⟨⟨h1.c0, h1.c1, h1.c2⟩, h2.c0, h2.c1, h2.c2⟩
      have HSC : Hid (∀ W, Below w7.heap.size w7 W → Calls Tryd.prog 16 #[circV (N : Int) (.slice au ps.length cu) (.slice av os.length cv), circV (N : Int) (.slice au2 qs.length cu2) (.slice av2 us.length cv2)] W fun e w' => e = .returned (.bool (decide (T = T'))) ∧ Below W.heap.size W w') := fun W hW => by
        obtain ⟨⟨h1, h2⟩, _⟩ := HQ.out W hW
        have := sameCir_any (N : Int) (N : Int) _ _ _ _ ps qs os us W h1.U h1.V h2.U h2.V
        rw [HSI.out] at this
        exact this
      have HBD : Hid (∀ W, Below w7.heap.size w7 W → Calls Tryd.prog 11 #[circV (N : Int) (.slice au2 qs.length cu2) (.slice av2 us.length cv2)] W fun e w' => ∃ v', e = .returned v' ∧ w'.ownsRow W.heap.size 5 1 v' T'.length (T'.map (Value.int .u8)) ∧ Below W.heap.size W w') := fun W hW => HBY.out _ _ W (HQ.out W hW).2.2 (HQ.out W hW).1.2.U (HQ.out W hW).1.2.V
      have HSB : Hid (∀ W v, Below w7.heap.size w7 W → RowG (Value.int .u8) 0 W v T' → Calls Tryd.prog 14 #[.slice ab nT cb, v] W fun e w' => e = .returned (.bool (decide (T = T'))) ∧ Below W.heap.size W w') := fun W v hW hv => (sameBytes_any _ _ T T' W (HQ.out W hW).2.1 hv).mono fun _ _ ⟨h1, h2⟩ => ⟨h1, below_drawsG h2⟩
      have hV0 : Below w7.heap.size w7 w7.drew := (Below.refl _ _).drew
      obtain ⟨⟨q0, q1, q2⟩, r0, r1, r2⟩ := HK.out _ (Below.refl _ _)
      have hs2 : w2.heap.size < w7.heap.size := (HQ.out _ (Below.refl _ _)).1.1.lt
      have hs3 : w3.heap.size < w7.heap.size := (HQ.out _ (Below.refl _ _)).1.2.lt
      unfold circV at HSC HBD
      generalize decide (T = T') = bt at *
      clear hU' hV' hal h7 hb6 HDV HC5 HD5 HRW5 HB5 HBY HSI
      unfold circV
      go_wp2_with fail
      clear hA
      go_region_held3 (fun W => (W.cell? ⟨w2.heap.size, 0, none⟩ = some (.int .i64 (N : Int)) ∧ W.cell? ⟨w2.heap.size, 1, none⟩ = some (.slice au ps.length cu) ∧ W.cell? ⟨w2.heap.size, 2, none⟩ = some (.slice av os.length cv)) ∧ W.cell? ⟨w3.heap.size, 0, none⟩ = some (.int .i64 (N : Int)) ∧ W.cell? ⟨w3.heap.size, 1, none⟩ = some (.slice au2 qs.length cu2) ∧ W.cell? ⟨w3.heap.size, 2, none⟩ = some (.slice av2 us.length cv2)) (first | exact HK.out _ hV0 | exact HK.out _ hVS | exact HK.out _ hVT | exact HK.out _ hVU) (first
        | (go_at_call 11; refine (HBD.out _ hV0).mono ?_; rintro e wS ⟨vS, rfl, hownS, hbS⟩; have hVS := bb_step hV0 hbS; have HRS := Lib.hid (own_rowG (d := (0 : Int)) hownS); obtain ⟨aS, cS, rfl, _, _⟩ := own_shape hownS; clear hbS hownS)
        | (go_at_call 14; refine (HSB.out _ _ hVS HRS.out).mono ?_; rintro e wT ⟨rfl, hbT⟩; have hVT := bb_step hVS hbT; clear hbT)
        | (go_at_call 16; refine (HSC.out _ hVT).mono ?_; rintro e wU ⟨rfl, hbU⟩; have hVU := bb_step hVT hbU; clear hbU))
      all_goals
        go_wp2_with fail
        go_ret
        exact ⟨by simp, (HQ.out _ hVU).2.2⟩
  · obtain ⟨K, rfl⟩ : ∃ K : Nat, k = (K : Int) := ⟨k.toNat, by omega⟩
    obtain ⟨m, hm, hml⟩ := HTM.out K
    go_wp2_with fail
    obtain ⟨hcall, hok⟩ := HDV.out m hml
    generalize readG (T.take m) = R at hcall hok
    obtain ⟨⟨n', ys, xs'⟩, f⟩ := R
    refine hcall.mono ?_
    rintro e w6 ⟨⟨u, v, ev, rfl, hU, hV, hO⟩, hb6⟩
    clear hcall
    cases f with
    | none => cases hok
    | some f =>
      obtain ⟨bb, hB, rfl, k0, k1⟩ := hO
      clear k0 k1 hok
      obtain ⟨ux, uc, rfl, hU'⟩ := hU
      obtain ⟨vx, vc, rfl, hV'⟩ := hV
      have hal : Below w6.heap.size w6 (w6.alloc (.cells #[.int .i64 n', .slice ux ys.length uc, .slice vx xs'.length vc] 27)) := (Below.refl _ w6).alloc (Nat.le_refl _) _
      have h7 := bb_step hb6 hal
      generalize hA : w6.alloc (.cells #[.int .i64 n', .slice ux ys.length uc, .slice vx xs'.length vc] 27) = w7 at *
      have HQ : Hid (∀ W, Below w7.heap.size w7 W → (Cq W w2.heap.size N (.slice au ps.length cu) (.slice av os.length cv) ps os ∧ Cq W w3.heap.size N (.slice au2 qs.length cu2) (.slice av2 us.length cv2) qs us) ∧ RowG (Value.int .u8) 0 W (.slice ab nT cb) T ∧ Below w.heap.size w W) := fun W hW => by
        have hb := bb_step h7 hW
        exact ⟨⟨HC5.out.keep hb, HD5.out.keep hb⟩, HRW5.out.keep hb, bb_step HB5.out hb⟩
      have HK : Hid (∀ W, Below w7.heap.size w7 W → (W.cell? ⟨w2.heap.size, 0, none⟩ = some (.int .i64 (N : Int)) ∧ W.cell? ⟨w2.heap.size, 1, none⟩ = some (.slice au ps.length cu) ∧ W.cell? ⟨w2.heap.size, 2, none⟩ = some (.slice av os.length cv)) ∧ W.cell? ⟨w3.heap.size, 0, none⟩ = some (.int .i64 (N : Int)) ∧ W.cell? ⟨w3.heap.size, 1, none⟩ = some (.slice au2 qs.length cu2) ∧ W.cell? ⟨w3.heap.size, 2, none⟩ = some (.slice av2 us.length cv2)) := fun W hW => by
        obtain ⟨⟨h1, h2⟩, _⟩ := HQ.out W hW
        exact ⟨⟨h1.c0, h1.c1, h1.c2⟩, h2.c0, h2.c1, h2.c2⟩
      have HSC : Hid (∀ W, Below w7.heap.size w7 W → Calls Tryd.prog 16 #[circV (N : Int) (.slice au ps.length cu) (.slice av os.length cv), circV (N : Int) (.slice au2 qs.length cu2) (.slice av2 us.length cv2)] W fun e w' => e = .returned (.bool (decide (T = T'))) ∧ Below W.heap.size W w') := fun W hW => by
        obtain ⟨⟨h1, h2⟩, _⟩ := HQ.out W hW
        have := sameCir_any (N : Int) (N : Int) _ _ _ _ ps qs os us W h1.U h1.V h2.U h2.V
        rw [HSI.out] at this
        exact this
      have HBD : Hid (∀ W, Below w7.heap.size w7 W → Calls Tryd.prog 11 #[circV (N : Int) (.slice au2 qs.length cu2) (.slice av2 us.length cv2)] W fun e w' => ∃ v', e = .returned v' ∧ w'.ownsRow W.heap.size 5 1 v' T'.length (T'.map (Value.int .u8)) ∧ Below W.heap.size W w') := fun W hW => HBY.out _ _ W (HQ.out W hW).2.2 (HQ.out W hW).1.2.U (HQ.out W hW).1.2.V
      have HSB : Hid (∀ W v, Below w7.heap.size w7 W → RowG (Value.int .u8) 0 W v T' → Calls Tryd.prog 14 #[.slice ab nT cb, v] W fun e w' => e = .returned (.bool (decide (T = T'))) ∧ Below W.heap.size W w') := fun W v hW hv => (sameBytes_any _ _ T T' W (HQ.out W hW).2.1 hv).mono fun _ _ ⟨h1, h2⟩ => ⟨h1, below_drawsG h2⟩
      have hV0 : Below w7.heap.size w7 w7.drew := (Below.refl _ _).drew
      obtain ⟨⟨q0, q1, q2⟩, r0, r1, r2⟩ := HK.out _ (Below.refl _ _)
      have hs2 : w2.heap.size < w7.heap.size := (HQ.out _ (Below.refl _ _)).1.1.lt
      have hs3 : w3.heap.size < w7.heap.size := (HQ.out _ (Below.refl _ _)).1.2.lt
      unfold circV at HSC HBD
      generalize decide (T = T') = bt at *
      clear hU' hV' hal h7 hb6 HDV HC5 HD5 HRW5 HB5 HBY HSI
      unfold circV
      go_wp2_with fail
      clear hA
      go_region_held3 (fun W => (W.cell? ⟨w2.heap.size, 0, none⟩ = some (.int .i64 (N : Int)) ∧ W.cell? ⟨w2.heap.size, 1, none⟩ = some (.slice au ps.length cu) ∧ W.cell? ⟨w2.heap.size, 2, none⟩ = some (.slice av os.length cv)) ∧ W.cell? ⟨w3.heap.size, 0, none⟩ = some (.int .i64 (N : Int)) ∧ W.cell? ⟨w3.heap.size, 1, none⟩ = some (.slice au2 qs.length cu2) ∧ W.cell? ⟨w3.heap.size, 2, none⟩ = some (.slice av2 us.length cv2)) (first | exact HK.out _ hV0 | exact HK.out _ hVS | exact HK.out _ hVT | exact HK.out _ hVU) (first
        | (go_at_call 11; refine (HBD.out _ hV0).mono ?_; rintro e wS ⟨vS, rfl, hownS, hbS⟩; have hVS := bb_step hV0 hbS; have HRS := Lib.hid (own_rowG (d := (0 : Int)) hownS); obtain ⟨aS, cS, rfl, _, _⟩ := own_shape hownS; clear hbS hownS)
        | (go_at_call 14; refine (HSB.out _ _ hVS HRS.out).mono ?_; rintro e wT ⟨rfl, hbT⟩; have hVT := bb_step hVS hbT; clear hbT)
        | (go_at_call 16; refine (HSC.out _ hVT).mono ?_; rintro e wU ⟨rfl, hbU⟩; have hVU := bb_step hVT hbU; clear hbU))
      all_goals
        go_wp2_with fail
        go_ret
        exact ⟨by simp, (HQ.out _ hVU).2.2⟩
theorem lawCt_any (A : Nat → Addr) (i k : Int) (a1 : Option Addr) (c1 : Nat) (ls : List Int) (a2 : Option Addr) (c2 : Nat) (ms : List Int) (a3 : Option Addr) (c3 : Nat) (ts : List Int) (w : World) (hS : Sents w A) (ht : Tabs w)
    (hl : RowAt w a1 c1 ls) (hlb : ∀ y ∈ ls, in64 y) (hm : RowAt w a2 c2 ms) (hmb : ∀ y ∈ ms, in64 y) (hts : RowAt w a3 c3 ts) (htb : ∀ y ∈ ts, in64 y) (hk64 : in64 k) :
    Calls Tryd.prog 4 #[.int .i64 i, .slice a1 ls.length c1, .slice a2 ms.length c2, .slice a3 ts.length c3, .int .i64 k] w fun e w' => e = .returned (.bool true) ∧ Below w.heap.size w w' := by
  by_cases ho : 60 < ls.length ∨ 60 < ms.length ∨ 9 < ts.length ∨ i < 0 ∨ 30 < i
  · exact lawCt_out A i k a1 c1 ls.length a2 c2 ms.length a3 c3 ts.length w hS ht ho
  · obtain ⟨N, rfl⟩ : ∃ N : Nat, i = (N : Int) := ⟨i.toNat, by omega⟩
    exact lawCt_in A N k a1 c1 ls a2 c2 ms a3 c3 ts w hS ht hl hlb hm hmb hts htb (fun h => ho (.inl h)) (fun h => ho (.inr (.inl h))) (fun h => ho (.inr (.inr (.inl h)))) (by omega) hk64
end Go.Proofs.YtfkodpglgeghlaaDoor
