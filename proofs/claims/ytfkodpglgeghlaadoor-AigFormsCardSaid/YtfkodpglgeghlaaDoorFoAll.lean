/- The law AigForms: true for whatever arguments. Conditions: the slices read as 64-bit ints; the errors lie as 'Sents' says; the table of powers of ten is as the program lays it. -/
import Derived.Test.YtfkodpglgeghlaaDoorCqM
import Derived.Test.YtfkodpglgeghlaaDoorGbM
import Derived.Deep.RegionHeld3
namespace Go.Proofs.YtfkodpglgeghlaaDoor
open Go.RowKit

set_option maxRecDepth 8000 in
set_option maxHeartbeats 4000000 in
theorem lawFo_out (A : Nat → Addr) (i : Int) (a1 : Option Addr) (c1 m1 : Nat) (a2 : Option Addr) (c2 m2 : Nat) (w : World) (hS : Sents w A) (ht : Tabs w) (ho : 120 < m1 ∨ 30 < m2 ∨ i < 0 ∨ 40 < i) :
    Calls Tryd.prog 6 #[.int .i64 i, .slice a1 m1 c1, .slice a2 m2 c2] w fun e w' => e = .returned (.bool true) ∧ Below w.heap.size w w' := by
  have HF := Lib.hid (first12_any A w hS ht)
  clear hS ht
  by_cases dm1 : 120 < m1
  · have dm1' : decide ((120 : Int) < (m1 : Int)) = true := decide_eq_true (by omega)
    clear ho
    go_enter Tryd.func6, Tryd.ntmps6
    go_wp2_with (go_at_call 9; refine HF.out.mono ?_; rintro e w1 ⟨rfl, hb1⟩)
    go_ret
    exact ⟨rfl, hb1⟩
  have dm1' : decide ((120 : Int) < (m1 : Int)) = false := decide_eq_false (by omega)
  by_cases dm2 : 30 < m2
  · have dm2' : decide ((30 : Int) < (m2 : Int)) = true := decide_eq_true (by omega)
    clear ho
    go_enter Tryd.func6, Tryd.ntmps6
    go_wp2_with (go_at_call 9; refine HF.out.mono ?_; rintro e w1 ⟨rfl, hb1⟩)
    go_ret
    exact ⟨rfl, hb1⟩
  have dm2' : decide ((30 : Int) < (m2 : Int)) = false := decide_eq_false (by omega)
  by_cases d4 : i < 0
  · clear ho
    go_enter Tryd.func6, Tryd.ntmps6
    go_wp2_with (go_at_call 9; refine HF.out.mono ?_; rintro e w1 ⟨rfl, hb1⟩)
    go_ret
    exact ⟨rfl, hb1⟩
  · have d5 : 40 < i := by omega
    clear ho
    go_enter Tryd.func6, Tryd.ntmps6
    go_wp2_with (go_at_call 9; refine HF.out.mono ?_; rintro e w1 ⟨rfl, hb1⟩)
    go_ret
    exact ⟨rfl, hb1⟩
theorem RightC.bdF {i : Nat} {ps : List (Int × Int)} {os : List Int} (h : RightC i ps os) : (∀ j, j < ps.length → 0 ≤ (ps.getD j (0, 0)).2 ∧ (ps.getD j (0, 0)).2 ≤ (ps.getD j (0, 0)).1 ∧ (ps.getD j (0, 0)).1 ≤ 2 * ((i : Int) + j + 1) - 1) ∧ ∀ o ∈ os, 0 ≤ o ∧ o < 1000000000 := ⟨h.2.2.1, h.bd.2⟩
/-- What Read answers where it does not take the text. -/
def NayP (w : World) (r : Ending) (w' : World) : Prop :=
  (∃ n a1 n1 c1 a2 n2 c2 bb, r = .returned (.tuple #[circV n (.slice a1 n1 c1) (.slice a2 n2 c2), .iface 73 (.pointer (some ⟨bb, 0, none⟩))])) ∧ Below w.heap.size w w'
theorem read_nay {A : Nat → Addr} {w : World} {P : Program} {f : Nat} {args : Array Value} {R : Res} (h : Calls P f args w (ReadP A w R)) (hR : okR R = false) : Calls P f args w (NayP w) := by
  refine h.mono ?_
  rintro e w' ⟨⟨u, v, ev, h1, h2, h3, h4⟩, h5⟩
  obtain ⟨a, c, rfl, _⟩ := h2
  obtain ⟨a', c', rfl, _⟩ := h3
  obtain ⟨x, f⟩ := R
  cases f with
  | none => cases hR
  | some f =>
    obtain ⟨bb, _, rfl, _⟩ := h4
    exact ⟨⟨_, _, _, _, _, _, _, bb, h1⟩, h5⟩

set_option maxRecDepth 8000 in
set_option maxHeartbeats 16000000 in
theorem lawFo_in (A : Nat → Addr) (N : Nat) (a1 : Option Addr) (c1 : Nat) (ls : List Int) (a2 : Option Addr) (c2 : Nat) (ts : List Int) (w : World) (hS : Sents w A) (ht : Tabs w)
    (hl : RowAt w a1 c1 ls) (hlb : ∀ y ∈ ls, in64 y) (hts : RowAt w a2 c2 ts) (htb : ∀ y ∈ ts, in64 y) (e1 : ¬ 120 < ls.length) (e2 : ¬ 30 < ts.length) (e5 : ¬ (40 : Int) < (N : Int)) :
    Calls Tryd.prog 6 #[.int .i64 (N : Int), .slice a1 ls.length c1, .slice a2 ts.length c2] w fun e w' => e = .returned (.bool true) ∧ Below w.heap.size w w' := by
  have d1 : decide ((120 : Int) < (ls.length : Int)) = false := decide_eq_false (by omega)
  have d2 : decide ((30 : Int) < (ts.length : Int)) = false := decide_eq_false (by omega)
  have d4 : ¬ (N : Int) < 0 := by omega
  have HF := Lib.hid (first12_any A w hS ht)
  have HMK := Lib.hid (fun W (hW : Below w.heap.size w W) => mkc_any N (.slice a1 ls.length c1) (.slice a2 ts.length c2) ls ts W (Row.keep ⟨a1, c1, rfl, hl⟩ hW) (Row.keep ⟨a2, c2, rfl, hts⟩ hW) (by omega) (by omega) (by omega) hlb htb)
  have HSN := Lib.hid (fun W (hW : Below w.heap.size w W) => hS.keep hW)
  have HTN := Lib.hid (fun W (hW : Below w.heap.size w W) => ht.keep hW)
  have HE := Lib.hid (And.intro e1 (And.intro e2 e5))
  clear hS ht hl hlb hts htb e1 e2
  generalize hn1 : ls.length = n1 at *
  generalize hn2 : ts.length = n2 at *
  clear hn1 hn2
  go_enter Tryd.func6, Tryd.ntmps6
  go_wp2_with fail
  refine HF.out.mono ?_
  rintro e w1 ⟨rfl, hb1⟩
  have HB1 := Lib.hid hb1
  clear hb1 HF
  go_wp2_with fail
  refine (HMK.out _ HB1.out).mono ?_
  rintro e w2 ⟨⟨u, v, ps, os, rfl, hU, hV, hR, hpl, hol⟩, hb2⟩
  have HB2 := Lib.hid (bb_step HB1.out hb2)
  have hpl2 : ps.length ≤ 60 := by have := HE.out; omega
  have hol2 : os.length ≤ 30 := by have := HE.out; omega
  have hN : N ≤ 40 := by omega
  have hbd := hR.bd
  have hbf := hR.bdF
  have hla := textA_len hR hN hpl2 hol2
  have hlb := textB_len hR hN hpl2 hol2
  have HYA := Lib.hid (fun u v W (hW : Below w.heap.size w W) (hU : PRow W u ps) (hV : Row W v os) => byt_any N u v ps os W hU hV (by omega) (by omega) (by omega) hbd.1 hbd.2 (HTN.out _ hW))
  have HYB := Lib.hid (fun u v W (hW : Below w.heap.size w W) (hU : PRow W u ps) (hV : Row W v os) => gbyt_any N u v ps os W hU hV (by omega) (by omega) (by omega) hbf.1 hbf.2 (HTN.out _ hW))
  have HAA := Lib.hid (fun W v (hW : Below w.heap.size w W) (hv : RowG (Value.int .u8) 0 W v (textA N ps os)) => read_got (readA_any A v (textA N ps os) W (HSN.out W hW) hv (textA_bts N ps os) (by omega)) (readR_back _ N ps os hR))
  have HBB := Lib.hid (fun W v (hW : Below w.heap.size w W) (hv : RowG (Value.int .u8) 0 W v (textB N ps os)) => read_got (greadA_any A v (textB N ps os) W (HSN.out W hW) hv (textB_bts N ps os) (by omega)) (readG_back N ps os hR))
  have HAB := Lib.hid (fun W v (hW : Below w.heap.size w W) (hv : RowG (Value.int .u8) 0 W v (textB N ps os)) => read_nay (readA_any A v (textB N ps os) W (HSN.out W hW) hv (textB_bts N ps os) (by omega)) (readR_aig _ N ps os))
  have HBA := Lib.hid (fun W v (hW : Below w.heap.size w W) (hv : RowG (Value.int .u8) 0 W v (textA N ps os)) => read_nay (greadA_any A v (textA N ps os) W (HSN.out W hW) hv (textA_bts N ps os) (by omega)) (readG_aag N ps os))
  obtain ⟨au, cu, rfl, hu⟩ := hU
  obtain ⟨av, cv, rfl, hv⟩ := hV
  have hal : Below w2.heap.size w2 (w2.alloc (.cells #[.int .i64 (N : Int), .slice au ps.length cu, .slice av os.length cv] 27)) := (Below.refl _ w2).alloc (Nat.le_refl _) _
  have hc := Cq.new (n := (N : Int)) 27 (⟨au, cu, rfl, hu⟩ : PRow w2 (.slice au ps.length cu) ps) (⟨av, cv, rfl, hv⟩ : Row w2 (.slice av os.length cv) os)
  have hb3 := bb_step HB2.out hal
  generalize hA : w2.alloc (.cells #[.int .i64 (N : Int), .slice au ps.length cu, .slice av os.length cv] 27) = w3 at *
  have HC3 := Lib.hid hc
  have HB3 := Lib.hid hb3
  obtain ⟨q0, q1, q2, _, _, q3⟩ := hc
  clear hb2 hu hv hR HMK HB1 HB2 hpl hol hal hbd hbf hla hlb hpl2 hol2 hN hb3 HSN HTN
  generalize textA N ps os = TA at *
  generalize textB N ps os = TB at *
  unfold circV
  go_wp2_with fail
  clear hA q0 q1 q2 q3
  refine (HYA.out _ _ _ HB3.out HC3.out.U HC3.out.V).mono ?_
  rintro e w4 ⟨v4, rfl, hown, hb⟩
  have HR4 := Lib.hid (own_rowG (d := (0 : Int)) hown)
  have HB4 := Lib.hid (bb_step HB3.out hb)
  have HC4 := Lib.hid (HC3.out.keep hb)
  obtain ⟨a4, c4, rfl, _, _⟩ := own_shape hown
  clear hown hb
  go_wp2_with fail
  refine (HAA.out _ _ HB4.out HR4.out).mono ?_
  rintro e w5 ⟨⟨u, v, rfl, hU, hV⟩, hb⟩
  obtain ⟨ux5, uc5, rfl, hu⟩ := hU
  obtain ⟨vx5, vc5, rfl, hv⟩ := hV
  have hx := Cq.new (n := (N : Int)) 27 (⟨ux5, uc5, rfl, hu⟩ : PRow w5 (.slice ux5 ps.length uc5) ps) (⟨vx5, vc5, rfl, hv⟩ : Row w5 (.slice vx5 os.length vc5) os)
  have hal : Below w5.heap.size w5 (w5.alloc (.cells #[.int .i64 (N : Int), .slice ux5 ps.length uc5, .slice vx5 os.length vc5] 27)) := (Below.refl _ w5).alloc (Nat.le_refl _) _
  have h2 := bb_step hb hal
  have hb3 := bb_step HB4.out h2
  have hc := HC4.out.keep h2
  generalize hA : w5.alloc (.cells #[.int .i64 (N : Int), .slice ux5 ps.length uc5, .slice vx5 os.length vc5] 27) = w6 at *
  have HC6 := Lib.hid hc
  have HB6 := Lib.hid hb3
  have HX6 := Lib.hid hx
  obtain ⟨q0, q1, q2, _, _, q3⟩ := hc
  clear hal h2 hb3 hb hu hv hx
  unfold circV
  go_wp2_with fail
  clear hA q0 q1 q2 q3
  refine (HYB.out _ _ _ HB6.out HC6.out.U HC6.out.V).mono ?_
  rintro e w7 ⟨v7, rfl, hown, hb⟩
  have HR7 := Lib.hid (own_rowG (d := (0 : Int)) hown)
  have HB7 := Lib.hid (bb_step HB6.out hb)
  have HC7 := Lib.hid (HC6.out.keep hb)
  have HX7 := Lib.hid (HX6.out.keep hb)
  obtain ⟨a7, c7, rfl, _, _⟩ := own_shape hown
  clear hown hb
  go_wp2_with fail
  refine (HBB.out _ _ HB7.out HR7.out).mono ?_
  rintro e w8 ⟨⟨u, v, rfl, hU, hV⟩, hb⟩
  obtain ⟨ux8, uc8, rfl, hu⟩ := hU
  obtain ⟨vx8, vc8, rfl, hv⟩ := hV
  have hx := Cq.new (n := (N : Int)) 27 (⟨ux8, uc8, rfl, hu⟩ : PRow w8 (.slice ux8 ps.length uc8) ps) (⟨vx8, vc8, rfl, hv⟩ : Row w8 (.slice vx8 os.length vc8) os)
  have hal : Below w8.heap.size w8 (w8.alloc (.cells #[.int .i64 (N : Int), .slice ux8 ps.length uc8, .slice vx8 os.length vc8] 27)) := (Below.refl _ w8).alloc (Nat.le_refl _) _
  have h2 := bb_step hb hal
  have hb3 := bb_step HB7.out h2
  have hc := HC7.out.keep h2
  have hX := HX7.out.keep h2
  generalize hA : w8.alloc (.cells #[.int .i64 (N : Int), .slice ux8 ps.length uc8, .slice vx8 os.length vc8] 27) = w9 at *
  have HC9 := Lib.hid hc
  have HB9 := Lib.hid hb3
  have HX9 := Lib.hid hX
  have HY9 := Lib.hid hx
  obtain ⟨q0, q1, q2, _, _, q3⟩ := hc
  clear hal h2 hb3 hb hu hv hx hX
  unfold circV
  go_wp2_with fail
  clear hA q0 q1 q2 q3
  refine (HYB.out _ _ _ HB9.out HC9.out.U HC9.out.V).mono ?_
  rintro e w10 ⟨v10, rfl, hown, hb⟩
  have HR10 := Lib.hid (own_rowG (d := (0 : Int)) hown)
  have HB10 := Lib.hid (bb_step HB9.out hb)
  have HC10 := Lib.hid (HC9.out.keep hb)
  have HX10 := Lib.hid (HX9.out.keep hb)
  have HY10 := Lib.hid (HY9.out.keep hb)
  obtain ⟨a10, c10, rfl, _, _⟩ := own_shape hown
  clear hown hb
  go_wp2_with fail
  refine (HAB.out _ _ HB10.out HR10.out).mono ?_
  rintro e w11 ⟨⟨nn11, ux11, um11, uc11, vx11, vm11, vc11, bb11, rfl⟩, hb⟩
  have hal : Below w11.heap.size w11 (w11.alloc (.cells #[.int .i64 nn11, .slice ux11 um11 uc11, .slice vx11 vm11 vc11] 27)) := (Below.refl _ w11).alloc (Nat.le_refl _) _
  have h2 := bb_step hb hal
  have hb3 := bb_step HB10.out h2
  have hc := HC10.out.keep h2
  have hX := HX10.out.keep h2
  have hY := HY10.out.keep h2
  generalize hA : w11.alloc (.cells #[.int .i64 nn11, .slice ux11 um11 uc11, .slice vx11 vm11 vc11] 27) = w12 at *
  have HC12 := Lib.hid hc
  have HB12 := Lib.hid hb3
  have HX12 := Lib.hid hX
  have HY12 := Lib.hid hY
  obtain ⟨q0, q1, q2, _, _, q3⟩ := hc
  clear hal h2 hb3 hb hX hY
  unfold circV
  go_wp2_with fail
  clear hA q0 q1 q2 q3
  refine (HYA.out _ _ _ HB12.out HC12.out.U HC12.out.V).mono ?_
  rintro e w13 ⟨v13, rfl, hown, hb⟩
  have HR13 := Lib.hid (own_rowG (d := (0 : Int)) hown)
  have HB13 := Lib.hid (bb_step HB12.out hb)
  have HC13 := Lib.hid (HC12.out.keep hb)
  have HX13 := Lib.hid (HX12.out.keep hb)
  have HY13 := Lib.hid (HY12.out.keep hb)
  obtain ⟨a13, c13, rfl, _, _⟩ := own_shape hown
  clear hown hb
  go_wp2_with fail
  refine (HBA.out _ _ HB13.out HR13.out).mono ?_
  rintro e w14 ⟨⟨nn14, ux14, um14, uc14, vx14, vm14, vc14, bb14, rfl⟩, hb⟩
  have hal : Below w14.heap.size w14 (w14.alloc (.cells #[.int .i64 nn14, .slice ux14 um14 uc14, .slice vx14 vm14 vc14] 27)) := (Below.refl _ w14).alloc (Nat.le_refl _) _
  have h2 := bb_step hb hal
  have hb3 := bb_step HB13.out h2
  have hc := HC13.out.keep h2
  have hX := HX13.out.keep h2
  have hY := HY13.out.keep h2
  generalize hA : w14.alloc (.cells #[.int .i64 nn14, .slice ux14 um14 uc14, .slice vx14 vm14 vc14] 27) = w15 at *
  have HC15 := Lib.hid hc
  have HB15 := Lib.hid hb3
  have HX15 := Lib.hid hX
  have HY15 := Lib.hid hY
  clear hal h2 hb3 hb hX hY hc
  unfold circV
  have HQ : Hid (∀ W, Below w15.heap.size w15 W → (Cq W w2.heap.size (N : Int) (.slice au ps.length cu) (.slice av os.length cv) ps os) ∧ (Cq W w5.heap.size (N : Int) (.slice ux5 ps.length uc5) (.slice vx5 os.length vc5) ps os) ∧ (Cq W w8.heap.size (N : Int) (.slice ux8 ps.length uc8) (.slice vx8 os.length vc8) ps os) ∧ Below w.heap.size w W) := fun W hW => ⟨HC15.out.keep hW, HX15.out.keep hW, HY15.out.keep hW, bb_step HB15.out hW⟩
  have HK : Hid (∀ W, Below w15.heap.size w15 W → (W.cell? ⟨w2.heap.size, 0, none⟩ = some (.int .i64 (N : Int)) ∧ W.cell? ⟨w2.heap.size, 1, none⟩ = some (.slice au ps.length cu) ∧ W.cell? ⟨w2.heap.size, 2, none⟩ = some (.slice av os.length cv)) ∧ (W.cell? ⟨w5.heap.size, 0, none⟩ = some (.int .i64 (N : Int)) ∧ W.cell? ⟨w5.heap.size, 1, none⟩ = some (.slice ux5 ps.length uc5) ∧ W.cell? ⟨w5.heap.size, 2, none⟩ = some (.slice vx5 os.length vc5)) ∧ (W.cell? ⟨w8.heap.size, 0, none⟩ = some (.int .i64 (N : Int)) ∧ W.cell? ⟨w8.heap.size, 1, none⟩ = some (.slice ux8 ps.length uc8) ∧ W.cell? ⟨w8.heap.size, 2, none⟩ = some (.slice vx8 os.length vc8))) := fun W hW => by
    obtain ⟨h1, h2, h3, _⟩ := HQ.out W hW
    exact ⟨⟨h1.c0, h1.c1, h1.c2⟩, ⟨h2.c0, h2.c1, h2.c2⟩, h3.c0, h3.c1, h3.c2⟩
  have HSC : Hid (∀ W, Below w15.heap.size w15 W → Calls Tryd.prog 16 #[.agg #[.int .i64 (N : Int), .slice ux5 ps.length uc5, .slice vx5 os.length vc5], .agg #[.int .i64 (N : Int), .slice ux8 ps.length uc8, .slice vx8 os.length vc8]] W fun e w' => e = .returned (.bool true) ∧ Below W.heap.size W w') := fun W hW => sameCir_one (N : Int) _ _ _ _ ps os W (HQ.out W hW).2.1.U (HQ.out W hW).2.1.V (HQ.out W hW).2.2.1.U (HQ.out W hW).2.2.1.V
  have HA1 : Hid (∀ W, Below w15.heap.size w15 W → Calls Tryd.prog 22 #[.agg #[.int .i64 (N : Int), .slice ux8 ps.length uc8, .slice vx8 os.length vc8]] W fun e w' => ∃ v', e = .returned v' ∧ w'.ownsRow W.heap.size 5 1 v' TA.length (TA.map (Value.int .u8)) ∧ Below W.heap.size W w') := fun W hW => HYA.out _ _ W (HQ.out W hW).2.2.2 (HQ.out W hW).2.2.1.U (HQ.out W hW).2.2.1.V
  have HA2 : Hid (∀ W, Below w15.heap.size w15 W → Calls Tryd.prog 22 #[.agg #[.int .i64 (N : Int), .slice au ps.length cu, .slice av os.length cv]] W fun e w' => ∃ v', e = .returned v' ∧ w'.ownsRow W.heap.size 5 1 v' TA.length (TA.map (Value.int .u8)) ∧ Below W.heap.size W w') := fun W hW => HYA.out _ _ W (HQ.out W hW).2.2.2 (HQ.out W hW).1.U (HQ.out W hW).1.V
  have HB1x : Hid (∀ W, Below w15.heap.size w15 W → Calls Tryd.prog 11 #[.agg #[.int .i64 (N : Int), .slice ux5 ps.length uc5, .slice vx5 os.length vc5]] W fun e w' => ∃ v', e = .returned v' ∧ w'.ownsRow W.heap.size 5 1 v' TB.length (TB.map (Value.int .u8)) ∧ Below W.heap.size W w') := fun W hW => HYB.out _ _ W (HQ.out W hW).2.2.2 (HQ.out W hW).2.1.U (HQ.out W hW).2.1.V
  have HB2x : Hid (∀ W, Below w15.heap.size w15 W → Calls Tryd.prog 11 #[.agg #[.int .i64 (N : Int), .slice au ps.length cu, .slice av os.length cv]] W fun e w' => ∃ v', e = .returned v' ∧ w'.ownsRow W.heap.size 5 1 v' TB.length (TB.map (Value.int .u8)) ∧ Below W.heap.size W w') := fun W hW => HYB.out _ _ W (HQ.out W hW).2.2.2 (HQ.out W hW).1.U (HQ.out W hW).1.V
  have HSA : Hid (∀ W u v, RowG (Value.int .u8) 0 W u TA → RowG (Value.int .u8) 0 W v TA → Calls Tryd.prog 14 #[u, v] W fun e w' => e = .returned (.bool true) ∧ Below W.heap.size W w') := fun W u v hu hv => by
    have := sameBytes_any u v TA TA W hu hv
    simp only [decide_true] at this
    exact this.mono fun _ _ ⟨h1, h2⟩ => ⟨h1, below_drawsG h2⟩
  have HSB : Hid (∀ W u v, RowG (Value.int .u8) 0 W u TB → RowG (Value.int .u8) 0 W v TB → Calls Tryd.prog 14 #[u, v] W fun e w' => e = .returned (.bool true) ∧ Below W.heap.size W w') := fun W u v hu hv => by
    have := sameBytes_any u v TB TB W hu hv
    simp only [decide_true] at this
    exact this.mono fun _ _ ⟨h1, h2⟩ => ⟨h1, below_drawsG h2⟩
  have hV0 : Below w15.heap.size w15 w15.drew := (Below.refl _ _).drew
  obtain ⟨⟨q0, q1, q2⟩, ⟨x0, x1, x2⟩, y0, y1, y2⟩ := HK.out _ (Below.refl _ _)
  have s1 := (HQ.out _ (Below.refl _ w15)).1.lt
  have s2 := (HQ.out _ (Below.refl _ w15)).2.1.lt
  have s3 := (HQ.out _ (Below.refl _ w15)).2.2.1.lt
  clear HYA HYB HAA HBB HAB HBA
  go_wp2_with fail
  clear hA
  go_region_held3 (fun W => (W.cell? ⟨w2.heap.size, 0, none⟩ = some (.int .i64 (N : Int)) ∧ W.cell? ⟨w2.heap.size, 1, none⟩ = some (.slice au ps.length cu) ∧ W.cell? ⟨w2.heap.size, 2, none⟩ = some (.slice av os.length cv)) ∧ (W.cell? ⟨w5.heap.size, 0, none⟩ = some (.int .i64 (N : Int)) ∧ W.cell? ⟨w5.heap.size, 1, none⟩ = some (.slice ux5 ps.length uc5) ∧ W.cell? ⟨w5.heap.size, 2, none⟩ = some (.slice vx5 os.length vc5)) ∧ (W.cell? ⟨w8.heap.size, 0, none⟩ = some (.int .i64 (N : Int)) ∧ W.cell? ⟨w8.heap.size, 1, none⟩ = some (.slice ux8 ps.length uc8) ∧ W.cell? ⟨w8.heap.size, 2, none⟩ = some (.slice vx8 os.length vc8))) (first | exact HK.out _ hV0 | exact HK.out _ hVS | exact HK.out _ hVT | exact HK.out _ hVU | exact HK.out _ hVV | exact HK.out _ hVX | exact HK.out _ hVY | exact HK.out _ hVZ) (first
    | (go_at_call 16; refine (HSC.out _ hV0).mono ?_; rintro e wS ⟨rfl, hbS⟩; have hVS := bb_step hV0 hbS; clear hbS)
    | (go_at_call_of 22 (Value.agg #[Value.int IntKind.i64 (N : Int), Value.slice ux8 ps.length uc8, Value.slice vx8 os.length vc8]); refine (HA1.out _ hVS).mono ?_; rintro e wT ⟨vT, rfl, hownT, hbT⟩; have hVT := bb_step hVS hbT; have hrT := own_rowG (d := (0 : Int)) hownT; obtain ⟨aT, cT, rfl, _, _⟩ := own_shape hownT; clear hbT hownT)
    | (go_at_call_of 22 (Value.agg #[Value.int IntKind.i64 (N : Int), Value.slice au ps.length cu, Value.slice av os.length cv]); refine (HA2.out _ hVT).mono ?_; rintro e wU ⟨vU, rfl, hownU, hbU⟩; have hVU := bb_step hVT hbU; have hrT := hrT.keep hbU; have hrU := own_rowG (d := (0 : Int)) hownU; obtain ⟨aU, cU, rfl, _, _⟩ := own_shape hownU; clear hbU hownU)
    | (go_at_call_of 14 (Value.slice aU TA.length cU); refine (HSA.out _ _ _ hrT hrU).mono ?_; rintro e wV ⟨rfl, hbV⟩; have hVV := bb_step hVU hbV; clear hbV hrT hrU)
    | (go_at_call_of 11 (Value.agg #[Value.int IntKind.i64 (N : Int), Value.slice ux5 ps.length uc5, Value.slice vx5 os.length vc5]); refine (HB1x.out _ hVV).mono ?_; rintro e wX ⟨vX, rfl, hownX, hbX⟩; have hVX := bb_step hVV hbX; have hrX := own_rowG (d := (0 : Int)) hownX; obtain ⟨aX, cX, rfl, _, _⟩ := own_shape hownX; clear hbX hownX)
    | (go_at_call_of 11 (Value.agg #[Value.int IntKind.i64 (N : Int), Value.slice au ps.length cu, Value.slice av os.length cv]); refine (HB2x.out _ hVX).mono ?_; rintro e wY ⟨vY, rfl, hownY, hbY⟩; have hVY := bb_step hVX hbY; have hrX := hrX.keep hbY; have hrY := own_rowG (d := (0 : Int)) hownY; obtain ⟨aY, cY, rfl, _, _⟩ := own_shape hownY; clear hbY hownY)
    | (go_at_call_of 14 (Value.slice aY TB.length cY); refine (HSB.out _ _ _ hrX hrY).mono ?_; rintro e wZ ⟨rfl, hbZ⟩; have hVZ := bb_step hVY hbZ; clear hbZ hrX hrY))
  all_goals
    go_wp2_with fail
    go_ret
    exact ⟨rfl, (HQ.out _ hVZ).2.2.2⟩
theorem lawFo_any (A : Nat → Addr) (i : Int) (a1 : Option Addr) (c1 : Nat) (ls : List Int) (a2 : Option Addr) (c2 : Nat) (ts : List Int) (w : World) (hS : Sents w A) (ht : Tabs w)
    (hl : RowAt w a1 c1 ls) (hlb : ∀ y ∈ ls, in64 y) (hts : RowAt w a2 c2 ts) (htb : ∀ y ∈ ts, in64 y) :
    Calls Tryd.prog 6 #[.int .i64 i, .slice a1 ls.length c1, .slice a2 ts.length c2] w fun e w' => e = .returned (.bool true) ∧ Below w.heap.size w w' := by
  by_cases ho : 120 < ls.length ∨ 30 < ts.length ∨ i < 0 ∨ 40 < i
  · exact lawFo_out A i a1 c1 ls.length a2 c2 ts.length w hS ht ho
  · obtain ⟨N, rfl⟩ : ∃ N : Nat, i = (N : Int) := ⟨i.toNat, by omega⟩
    exact lawFo_in A N a1 c1 ls a2 c2 ts w hS ht hl hlb hts htb (fun h => ho (.inl h)) (fun h => ho (.inr (.inl h))) (by omega)
end Go.Proofs.YtfkodpglgeghlaaDoor
