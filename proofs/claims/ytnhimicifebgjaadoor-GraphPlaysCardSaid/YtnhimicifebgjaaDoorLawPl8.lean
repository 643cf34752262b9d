/- The law GraphPlays: true for whatever arguments. Conditions: the slices read as 64-bit ints; the errors lie as 'Sents' says. -/
import Derived.Test.YtnhimicifebgjaaDoorPst
import Derived.Test.YtnhimicifebgjaaDoorSmP
import Derived.Test.YtnhimicifebgjaaDoorLawFold
namespace Go.Proofs.YtnhimicifebgjaaDoor
open Go.RowKit

set_option maxRecDepth 8000 in
set_option maxHeartbeats 4000000 in
theorem lawPl8_out (A : Nat → Addr) (n : Int) (a : Option Addr) (c m : Nat) (a2 : Option Addr) (c2 m2 : Nat) (a3 : Option Addr) (c3 m3 : Nat) (w : World) (hS : Sents w A) (ho : 200 < m ∨ 20 < m2 ∨ 20 < m3 ∨ 50 < n) :
    Calls Tryd.prog 3 #[.int .i64 n, .slice a m c, .slice a2 m2 c2, .slice a3 m3 c3] w fun e w' => e = .returned (.bool true) ∧ Below w.heap.size w w' := by
  have HF := Lib.hid (first8_any A w hS.two)
  clear hS
  by_cases d1 : 200 < m
  · have d1' : decide (200 < m) = true := decide_eq_true d1
    clear ho
    go_enter Tryd.func3, Tryd.ntmps3
    go_wp2_with fail
    refine HF.out.mono ?_
    rintro e w1 ⟨rfl, hb1⟩
    go_wp2_with fail
    go_ret
    exact ⟨rfl, hb1⟩
  · have d1' : decide (200 < m) = false := decide_eq_false d1
    by_cases d2 : 20 < m2
    · have d2' : decide (20 < m2) = true := decide_eq_true d2
      clear ho
      go_enter Tryd.func3, Tryd.ntmps3
      go_wp2_with fail
      refine HF.out.mono ?_
      rintro e w1 ⟨rfl, hb1⟩
      go_wp2_with fail
      go_ret
      exact ⟨rfl, hb1⟩
    · have d2' : decide (20 < m2) = false := decide_eq_false d2
      by_cases d3 : 20 < m3
      · have d3' : decide (20 < m3) = true := decide_eq_true d3
        clear ho
        go_enter Tryd.func3, Tryd.ntmps3
        go_wp2_with fail
        refine HF.out.mono ?_
        rintro e w1 ⟨rfl, hb1⟩
        go_wp2_with fail
        go_ret
        exact ⟨rfl, hb1⟩
      · have d3' : decide (20 < m3) = false := decide_eq_false d3
        have d4 : 50 < n := by omega
        clear ho
        go_enter Tryd.func3, Tryd.ntmps3
        go_wp2_with fail
        refine HF.out.mono ?_
        rintro e w1 ⟨rfl, hb1⟩
        go_wp2_with fail
        go_ret
        exact ⟨rfl, hb1⟩

/-- The load of the document's error within the second loop's test: its cell turns within that region, so it is no part of what is held. -/
def ldOp : Op := Op.load 3 (Operand.tmp 153)
theorem ldOp_eq : ldOp = Op.load 3 (Operand.tmp 153) := rfl

set_option maxRecDepth 8000 in
set_option maxHeartbeats 8000000 in
theorem lawPl8_any (A : Nat → Addr) (n : Int) (a : Option Addr) (c : Nat) (ls : List Int) (a2 : Option Addr) (c2 : Nat) (rs : List Int) (a3 : Option Addr) (c3 : Nat) (os : List Int) (w : World) (hS : Sents w A) (hn1 : -9223372036854775808 ≤ n) (hn2 : n ≤ 9223372036854775807) (hv : RowAt w a c ls) (hls : ∀ y ∈ ls, -9223372036854775808 ≤ y ∧ y ≤ 9223372036854775807)
    (hu : RowAt w a2 c2 rs) (hrs : ∀ y ∈ rs, -9223372036854775808 ≤ y ∧ y ≤ 9223372036854775807) (ht : RowAt w a3 c3 os) :
    Calls Tryd.prog 3 #[.int .i64 n, .slice a ls.length c, .slice a2 rs.length c2, .slice a3 os.length c3] w fun e w' => e = .returned (.bool true) ∧ Below w.heap.size w w' := by
  by_cases hout : 200 < ls.length ∨ 20 < rs.length ∨ 20 < os.length ∨ 50 < n
  · exact lawPl8_out A n a c ls.length a2 c2 rs.length a3 c3 os.length w hS hout
  have HF := Lib.hid (first8_any A w hS.two)
  have d1 : ¬ 200 < ls.length := fun h => hout (.inl h)
  have d2 : ¬ 20 < rs.length := fun h => hout (.inr (.inl h))
  have d3 : ¬ 20 < os.length := fun h => hout (.inr (.inr (.inl h)))
  have d4 : ¬ 50 < n := fun h => hout (.inr (.inr (.inr h)))
  have d1' : decide (200 < ls.length) = false := decide_eq_false d1
  have d2' : decide (20 < rs.length) = false := decide_eq_false d2
  have d3' : decide (20 < os.length) = false := decide_eq_false d3
  clear hout
  have HRO : Hid (∀ W, Below w.heap.size w W → Row W (.slice a3 os.length c3) os) := fun W hW => ⟨a3, c3, rfl, ht.keep hW⟩
  obtain ⟨hv1, hv2, hv3⟩ := hv
  obtain ⟨hu1, hu2, hu3⟩ := hu
  unfold maxLen at hv2 hu2
  have HV := Lib.hid hv3; clear hv3
  have HU := Lib.hid hu3; clear hu3
  have HBD : Hid (∀ k, k < ls.length → -9223372036854775808 ≤ ls.getD k 0 ∧ ls.getD k 0 ≤ 9223372036854775807) := fun k hk => hls _ (by simp [List.getD, hk])
  have HBR : Hid (∀ k, k < rs.length → -9223372036854775808 ≤ rs.getD k 0 ∧ rs.getD k 0 ≤ 9223372036854775807) := fun k hk => hrs _ (by simp [List.getD, hk])
  have HOL : Hid (os.length ≤ 1000000) := by unfold Hid; omega
  have HS := Lib.hid hS
  clear hls hrs ht hS
  generalize ls.length = m at *
  generalize rs.length = m2 at *
  generalize hm3 : os.length = m3 at *
  have HM3 := Lib.hid hm3; clear hm3
  go_enter Tryd.func3, Tryd.ntmps3
  go_wp2_with fail
  refine HF.out.mono ?_
  rintro e w1 ⟨rfl, hb1⟩
  go_wp2_with fail
  refine (gsNew A hb1 n ⟨hn1, hn2⟩).mono ?_
  rintro e w2 ⟨v, rfl, hG⟩
  obtain ⟨p, rfl⟩ := hG.ptr
  clear hb1 HF
  go_wp2_with fail
  refine (rnew_any n w2 hn1 hn2).mono ?_
  rintro e w3 ⟨⟨x, T, rfl, hR, hT⟩, hb3⟩
  obtain ⟨q, rfl, hP⟩ := PSt.start (p := p) hG hb3 hR hT
  clear hG hb3 hR hT
  generalize newG n = g0 at *
  unfold ptrV at *
  have HPD := Lib.hid (hP.keep (Below.refl _ _).drew)
  have HIN := Lib.hid (fun W (h : PSt w A p q g0 g0 W) => psInputs h)
  unfold ptrV at HIN
  go_wp2_with fail
  go_region_held3 (fun W => W.cell? ⟨q, 0, none⟩ = some (.int .i64 (g0.n : Int))) (first | exact HPD.out.rcells.1) (first
    | (go_at_call 14; refine (HIN.out _ HPD.out).mono ?_; rintro e w' ⟨rfl, rfl⟩))
  clear HIN hP
  go_wp2_with fail
  go_loopw [12, 13, 14, 15] (fun i _ _ _ wr => ∃ (k : Nat) (g : Gr), 2 * k ≤ m + 1 ∧ i = .int .i64 ((2 * k : Nat) : Int) ∧ PSt w A p q g g wr) (fun i _ _ _ _ => m + 2 - (intOf i).toNat)
  case atStart => exact ⟨0, g0, by omega, rfl, HPD.out⟩
  case round =>
    obtain ⟨k, g, hk, rfl, hP⟩ := hrel
    by_cases hlt : 2 * k + 1 < m
    · obtain ⟨b, off, ha, hb, hc⟩ := HV.out.resolve_left (by omega)
      subst ha
      have q0 := hc (2 * k) (by omega)
      have q1 := hc (2 * k + 1) hlt
      obtain ⟨z1, z2⟩ := HBD.out (2 * k) (by omega)
      obtain ⟨z3, z4⟩ := HBD.out (2 * k + 1) hlt
      clear hc
      generalize ls.getD (2 * k) 0 = x0 at *
      generalize ls.getD (2 * k + 1) 0 = x1 at *
      have e0 := (hP.bel.cell (p := ⟨b, off + 2 * k, none⟩) hb).trans q0
      have e1 := (hP.bel.cell (p := ⟨b, off + (2 * k + 1), none⟩) hb).trans q1
      clear q0 q1
      have hd1 : decide (2 * k + 1 < m) = true := decide_eq_true hlt
      have hgl := hP.len.1
      have HL1 := Lib.hid (fun W g' (h : PSt w A p q g' g' W) => psLen h)
      have HL2 := Lib.hid (fun W g' (h : PSt w A p q g' g' W) => psRLen h)
      have HA1 := Lib.hid (fun W x y hx hy (h : PSt w A p q g g W) => psAnd HS.out.two h x y hx hy)
      have HA2 := Lib.hid (fun W x y hx hy (h : PSt w A p q (andG g x y).1 g W) => psRAnd h x y hx hy)
      unfold ptrV at HL1 HL2 HA1 HA2
      go_wp2_with fail
      refine (HL2.out _ _ hP).mono ?_
      rintro e w' ⟨rfl, nq, rfl⟩
      have hP2 := hP.keep (below_drewN (Below.refl _ _) nq)
      have hNp : (0 : Int) < 2 * (g.len : Int) + 2 := by omega
      have hNb : 2 * (g.len : Int) + 2 ≤ 20000 := by omega
      obtain ⟨m1, m2'⟩ := mod_bd x0 (2 * (g.len : Int) + 2) hNp
      obtain ⟨m3', m4⟩ := mod_bd x1 (2 * (g.len : Int) + 2) hNp
      have HP2 := Lib.hid hP2
      clear hP hP2
      have i0 : (0 : Int) ≤ 2 * (k : Int) := by omega
      have i1 : 2 * (k : Int) < (m : Int) := by omega
      have i2 : (0 : Int) ≤ 2 * (k : Int) + 1 := by omega
      have i3 : 2 * (k : Int) + 1 < (m : Int) := by omega
      go_wp2_with fail
      have es0 : (x0.tmod (2 * (g.len : Int) + 2) + (2 * (g.len : Int) + 2)) % (2 * (g.len : Int) + 2) = x0.tmod (2 * (g.len : Int) + 2) % (2 * (g.len : Int) + 2) := by simp
      have es1 : (x1.tmod (2 * (g.len : Int) + 2) + (2 * (g.len : Int) + 2)) % (2 * (g.len : Int) + 2) = x1.tmod (2 * (g.len : Int) + 2) % (2 * (g.len : Int) + 2) := by simp
      rw [es0, es1]
      clear es0 es1
      have ex1 := Int.emod_nonneg (x0.tmod (2 * (g.len : Int) + 2)) (show (2 * (g.len : Int) + 2) ≠ 0 by omega)
      have ex2 := Int.emod_lt_of_pos (x0.tmod (2 * (g.len : Int) + 2)) hNp
      have ey1 := Int.emod_nonneg (x1.tmod (2 * (g.len : Int) + 2)) (show (2 * (g.len : Int) + 2) ≠ 0 by omega)
      have ey2 := Int.emod_lt_of_pos (x1.tmod (2 * (g.len : Int) + 2)) hNp
      generalize x0.tmod (2 * (g.len : Int) + 2) % (2 * (g.len : Int) + 2) = xa at *
      generalize x1.tmod (2 * (g.len : Int) + 2) % (2 * (g.len : Int) + 2) = xb at *
      clear m1 m2' m3' m4 i0 i1 i2 i3
      have hx64 : in64 xa := ⟨by omega, by omega⟩
      have hy64 : in64 xb := ⟨by omega, by omega⟩
      have H1 := Lib.hid (HA1.out _ xa xb hx64 hy64 HP2.out)
      have H2 := Lib.hid (fun W h => HA2.out W xa xb hx64 hy64 h)
      clear HA1 HA2 hx64 hy64
      generalize (andG g xa xb).2 = l2 at *
      generalize (andG g xa xb).1 = g2 at *
      refine H1.out.mono ?_
      rintro e w4 ⟨rfl, hP4⟩
      go_wp2_with fail
      refine (H2.out _ hP4).mono ?_
      rintro e w5 ⟨rfl, hP5⟩
      clear hP4 H1 H2
      have HP5 := Lib.hid (fun W (hW : Below w5.heap.size w5 W) => hP5.keep hW)
      go_wp2_with fail
      refine (HL1.out _ _ hP5).mono ?_
      rintro e w' ⟨rfl, n6, rfl⟩
      go_wp2_with fail
      refine (HL2.out _ _ (HP5.out _ (below_drewN (Below.refl _ _) _))).mono ?_
      rintro e w' ⟨rfl, n7, rfl⟩
      clear hP5 HL1 HL2
      go_wp2_with fail
      go_roundw
      case rel => exact ⟨k + 1, g2, by omega, by go_num, HP5.out _ (by first | exact below_drewN (Below.refl _ _) _ | exact below_drewN (below_drewN (Below.refl _ _) _) _)⟩
      case measure => simp [intOf]; omega
    · have hd1 : decide (2 * k + 1 < m) = false := decide_eq_false hlt
      have HP := Lib.hid hP
      clear hP
      go_wp2_with fail
      clear hlt hd1 hk HV HBD
      generalize ((2 * k : Nat) : Int) = z12 at *
      go_loopw [16] (fun i wr2 => ∃ (k : Nat) (g : Gr), 2 * k ≤ m2 + 1 ∧ i = .int .i64 ((2 * k : Nat) : Int) ∧ PSt w A p q g g wr2) (fun i _ => m2 + 2 - (intOf i).toNat)
      case atStart => exact ⟨0, g, by omega, rfl, HP.out⟩
      case round =>
        obtain ⟨k2, g2, hk, rfl, hP⟩ := hrel
        clear HP
        by_cases hlt : 2 * k2 + 1 < m2
        · obtain ⟨b, off, ha, hb, hc⟩ := HU.out.resolve_left (by omega)
          subst ha
          have q0 := hc (2 * k2) (by omega)
          have q1 := hc (2 * k2 + 1) hlt
          obtain ⟨z1, z2⟩ := HBR.out (2 * k2) (by omega)
          obtain ⟨z3, z4⟩ := HBR.out (2 * k2 + 1) hlt
          clear hc
          generalize rs.getD (2 * k2) 0 = x0 at *
          generalize rs.getD (2 * k2 + 1) 0 = x1 at *
          have HC : Hid (∀ W, Below w.heap.size w W → W.cell? ⟨b, off + 2 * k2, none⟩ = some (.int .i64 x0) ∧ W.cell? ⟨b, off + (2 * k2 + 1), none⟩ = some (.int .i64 x1)) := fun W hW => ⟨(hW.cell (p := ⟨b, off + 2 * k2, none⟩) hb).trans q0, (hW.cell (p := ⟨b, off + (2 * k2 + 1), none⟩) hb).trans q1⟩
          clear q0 q1
          have hd1 : decide (2 * k2 + 1 < m2) = true := decide_eq_true hlt
          have HA1 := Lib.hid (fun W r (h : PSt w A p q g2 r W) => psAnd HS.out.two h x0 x1 ⟨z1, z2⟩ ⟨z3, z4⟩)
          have HA2 := Lib.hid (fun W g' (h : PSt w A p q g' g2 W) => psRAnd h x0 x1 ⟨z1, z2⟩ ⟨z3, z4⟩)
          unfold ptrV at HA1 HA2
          have HI1 := Lib.hid (fun W r (h : PSt w A p q (andG g2 x0 x1).1 r W) => psIn HS.out.two h x0 ⟨z1, z2⟩)
          have HI2 := Lib.hid (fun W g' (h : PSt w A p q g' (andG g2 x0 x1).1 W) => psRIn h x0 ⟨z1, z2⟩)
          unfold ptrV at HI1 HI2
          generalize (andG g2 x0 x1).2 = l3 at *
          generalize (andG g2 x0 x1).1 = g3 at *
          generalize (inG g3 x0).2 = l4 at *
          generalize (inG g3 x0).1 = g4 at *
          have HE := Lib.hid (fun W (h : PSt w A p q g4 g4 W) => psErr h)
          unfold ptrV at HE
          have HCO := Lib.hid (fun W (h : PSt w A p q g4 g4 W) => code_any (errC A g4.bad) g4.bad false 0 W (errAs_code (HS.out.keep h.bel) g4.bad h.len.2.1))
          have HP0 := Lib.hid (hP.keep (Below.refl _ _).drew)
          have HPP := Lib.hid hP
          clear hP
          have i0 : (0 : Int) ≤ 2 * (k2 : Int) := by omega
          have i1 : 2 * (k2 : Int) < (m2 : Int) := by omega
          have i2 : (0 : Int) ≤ 2 * (k2 : Int) + 1 := by omega
          have i3 : 2 * (k2 : Int) + 1 < (m2 : Int) := by omega
          have t1 : (2 * (k2 : Int)).toNat = 2 * k2 := by omega
          have t2 : (2 * (k2 : Int) + 1).toNat = 2 * k2 + 1 := by omega
          have w6 : IntKind.i64.wrap (2 * (k2 : Int) + 1) = 2 * (k2 : Int) + 1 := IntWalk.i64_in _ (by omega)
          go_wp2_with fail
          rw [← ldOp_eq]
          have hld := ldOp_eq
          go_region_held3 (fun W => W.cell? ⟨b, off + 2 * k2, none⟩ = some (.int .i64 x0) ∧ W.cell? ⟨b, off + (2 * k2 + 1), none⟩ = some (.int .i64 x1)) (first | exact HC.out _ HP0.out.bel | exact HC.out _ HA.out.bel | exact HC.out _ HB.out.bel | exact HC.out _ HD.out.bel | exact HC.out _ HF4.out.bel | exact HC.out _ HK.out.bel) (first
            | (go_at_call 16; refine (HA1.out _ _ (by first | exact HP0.out | exact HB.out)).mono ?_; rintro e wA ⟨rfl, hA⟩; have HA := Lib.hid hA; clear hA)
            | (go_at_call 17; refine (HA2.out _ _ (by first | exact HP0.out | exact HA.out)).mono ?_; rintro e wB ⟨rfl, hB⟩; have HB := Lib.hid hB; clear hB)
            | (go_at_call 19; refine (HI1.out _ _ (by first | exact HA.out | exact HB.out | exact HF4.out)).mono ?_; rintro e wD ⟨rfl, hD⟩; have zb := hD.rcells.2; have HD := Lib.hid hD; clear hD)
            | (go_at_call 20; refine (HI2.out _ _ (by first | exact HA.out | exact HB.out | exact HD.out)).mono ?_; rintro e wF ⟨rfl, hF⟩; have zb := hF.rcells.2; have HF4 := Lib.hid hF; clear hF)
            | (go_at_call 22; refine (HE.out _ (by first | exact HD.out | exact HF4.out)).mono ?_; rintro e w' ⟨rfl, rfl⟩)
            | (go_at_call 21; refine (HCO.out _ (by first | exact HD.out | exact HF4.out)).mono ?_; rintro e wK ⟨rfl, hK⟩; have hK2 : PSt w A p q g4 g4 wK := (by first | exact HD.out.keep hK | exact HF4.out.keep hK); have zk := hK2.rcells.2; have HK := Lib.hid hK2; clear hK hK2))
          all_goals
            clear i0 i1 i2 i3 t1 t2 w6 hld
            go_wp2_with fail
            go_roundw
            case rel => exact ⟨k2 + 1, g4, by omega, by go_num, HK.out⟩
            case measure => simp [intOf]; omega
        · have hd1 : decide (2 * k2 + 1 < m2) = false := decide_eq_false hlt
          have HP := Lib.hid hP
          clear hP
          go_wp2_with fail
          clear hlt hd1 hk HU HBR
          have HC1 := Lib.hid (fun W (h : PSt w A p q g2 g2 W) => psCirc h _ os (HRO.out W h.bel) (by rw [HM3.out]; exact HOL.out))
          have HC2 := Lib.hid (fun W (h : PSt w A p q g2 g2 W) => psRCirc h _ os (HRO.out W h.bel) (by rw [HM3.out]; exact HOL.out))
          have HE := Lib.hid (fun W (h : PSt w A p q g2 g2 W) => psErr h)
          have HL1 := Lib.hid (fun W (h : PSt w A p q g2 g2 W) => psLen h)
          have HL2 := Lib.hid (fun W (h : PSt w A p q g2 g2 W) => psRLen h)
          have HCO := Lib.hid (fun W (h : PSt w A p q g2 g2 W) => code_any (errC A g2.bad) g2.bad false 0 W (errAs_code (HS.out.keep h.bel) g2.bad h.len.2.1))
          unfold ptrV at HC1 HC2 HE HL1 HL2
          unfold CirPost circV at HC1 HC2
          refine (HC1.out _ HP.out).mono ?_
          rintro e w4 ⟨⟨u1, v1, rfl, hu1, hv1⟩, hb4⟩
          have HU1 := Lib.hid (fun W (hW : Below w4.heap.size w4 W) => (own_prow hu1).keep hW)
          have HV1 := Lib.hid (fun W (hW : Below w4.heap.size w4 W) => (own_row hv1).keep hW)
          obtain ⟨b1, k1, rfl, _⟩ := row_shape hu1
          obtain ⟨b2, k2', rfl, _⟩ := row_shape hv1
          have HP4 := Lib.hid (HP.out.keep hb4)
          clear hu1 hv1 hb4 HC1
          generalize hga : g2.ands.length = ga at *
          clear hga
          go_wp2_with fail
          have HQ : Hid (∀ W, Below (w4.heap.size + 1) (w4.alloc (.cells #[.int .i64 (g2.n : Int), .slice b1 ga k1, .slice b2 os.length k2'] 39)) W → (W.cell? ⟨w4.heap.size, 0, none⟩ = some (.int .i64 (g2.n : Int)) ∧ W.cell? ⟨w4.heap.size, 1, none⟩ = some (.slice b1 ga k1) ∧ W.cell? ⟨w4.heap.size, 2, none⟩ = some (.slice b2 os.length k2') ∧ W.cell? ⟨q, 2, none⟩ = some (.int .i64 g2.bad)) ∧ PSt w A p q g2 g2 W ∧ (PRow W (.slice b1 ga k1) g2.ands ∧ Row W (.slice b2 os.length k2') os) ∧ w4.heap.size + 1 ≤ W.heap.size) := fun W hW => by
            have hb : Below w4.heap.size w4 W := ((Below.refl _ w4).alloc (Nat.le_refl _) _).trans (hW.mono (by omega))
            have hP := HP4.out.keep hb
            refine ⟨⟨?_, ?_, ?_, hP.rcells.2⟩, hP, ⟨HU1.out W hb, HV1.out W hb⟩, by have := hW.size; simp at this; omega⟩
            · rw [hW.cell (p := ⟨w4.heap.size, 0, none⟩) (by simp), cell_of_row _ _ 0 _ 39 (0, 0) (heap_alloc_new _ _)]; rfl
            · rw [hW.cell (p := ⟨w4.heap.size, 1, none⟩) (by simp), cell_of_row _ _ 1 _ 39 (0, 0) (heap_alloc_new _ _)]; rfl
            · rw [hW.cell (p := ⟨w4.heap.size, 2, none⟩) (by simp), cell_of_row _ _ 2 _ 39 (0, 0) (heap_alloc_new _ _)]; rfl
          have hV0 : Below (w4.heap.size + 1) (w4.alloc (.cells #[.int .i64 (g2.n : Int), .slice b1 ga k1, .slice b2 os.length k2'] 39)) (w4.alloc (.cells #[.int .i64 (g2.n : Int), .slice b1 ga k1, .slice b2 os.length k2'] 39)).drew := (Below.refl _ _).drew
          clear HU1 HV1 HP4 HP
          go_region_held3 (fun W => W.cell? ⟨w4.heap.size, 0, none⟩ = some (.int .i64 (g2.n : Int)) ∧ W.cell? ⟨w4.heap.size, 1, none⟩ = some (.slice b1 ga k1) ∧ W.cell? ⟨w4.heap.size, 2, none⟩ = some (.slice b2 os.length k2') ∧ W.cell? ⟨q, 2, none⟩ = some (.int .i64 g2.bad)) (first | exact (HQ.out _ hV0).1 | exact (HQ.out _ hVR).1 | exact (HQ.out _ hVS).1 | exact (HQ.out _ hVK).1 | exact (HQ.out _ (below_drewN hVK _)).1) (first
            | (go_at_call 25; refine (HC2.out _ (HQ.out _ hV0).2.1).mono ?_; rintro e wR ⟨⟨u2, v2, rfl, hu2, hv2⟩, hbR⟩; have hVR := hV0.trans (hbR.mono (HQ.out _ hV0).2.2.2); have HSC := Lib.hid (sameCir_yes (g2.n : Int) _ _ _ _ g2.ands os wR (HQ.out _ hVR).2.2.1.1 (HQ.out _ hVR).2.2.1.2 (own_prow hu2) (own_row hv2)); unfold circV at HSC; obtain ⟨b3, k3, rfl, _⟩ := row_shape hu2; obtain ⟨b4, k4, rfl, _⟩ := row_shape hv2; clear hu2 hv2 hbR)
            | (go_at_call 24; refine HSC.out.mono ?_; rintro e wS ⟨rfl, hbS⟩; have hVS := hVR.trans (hbS.mono (HQ.out _ hVR).2.2.2); clear hbS)
            | (go_at_call 22; refine (HE.out _ (HQ.out _ hVS).2.1).mono ?_; rintro e w' ⟨rfl, rfl⟩)
            | (go_at_call 21; refine (HCO.out _ (HQ.out _ hVS).2.1).mono ?_; rintro e wK ⟨rfl, hbK⟩; have hVK := hVS.trans (hbK.mono (HQ.out _ hVS).2.2.2); clear hbK)
            | (go_at_call 18; refine (HL1.out _ (by first | exact (HQ.out _ hVK).2.1 | exact (HQ.out _ (below_drewN hVK _)).2.1)).mono ?_; rintro e w' ⟨rfl, nL, rfl⟩)
            | (go_at_call 15; refine (HL2.out _ (by first | exact (HQ.out _ hVK).2.1 | exact (HQ.out _ (below_drewN hVK _)).2.1)).mono ?_; rintro e w' ⟨rfl, nR, rfl⟩))
          all_goals
            go_wp2_with fail
            go_ret
            exact ⟨rfl, (HQ.out _ (by first | exact below_drewN hVK _ | exact below_drewN (below_drewN hVK _) _)).2.1.bel⟩
end Go.Proofs.YtnhimicifebgjaaDoor
