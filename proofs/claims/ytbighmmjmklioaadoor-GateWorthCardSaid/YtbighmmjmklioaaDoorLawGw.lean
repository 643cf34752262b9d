/- The law GateWorth: true for whatever arguments. Conditions: the slice reads as 64-bit ints; the two errors lie as 'Sents2' says. -/
import Derived.Test.YtbighmmjmklioaaDoorGlF
namespace Go.Proofs.YtbighmmjmklioaaDoor
open Go.RowKit

/-- Five gates made one after another, and what they are worth at the end. -/
theorem worth_chain {g : Gr} (h : g.Fine) (hl : g.len ≤ 100) {a b c : Int} (ha : g.isB a = true) (hb : g.isB b = true) (hc : g.isB c = true) {xs : List Int} (hx : ∀ x ∈ xs, g.isB x = true) (hxl : xs.length ≤ 20) (r1 r2 r3 r4 r5 : Gr × Int)
    (e1 : r1 = orG g a b) (e2 : r2 = xorG r1.1 a b) (e3 : r3 = muxG r2.1 a b c) (e4 : r4 = allG r3.1 xs) (e5 : r5 = anyG r4.1 xs) :
    r5.1.Fine ∧ r5.1.len ≤ 8000 ∧ (∀ o ∈ [r1.2, r2.2, r3.2, r4.2, r5.2], r5.1.isB o = true) ∧ ∀ ins, evalV r5.1.n r5.1.ands [r1.2, r2.2, r3.2, r4.2, r5.2] ins = [g.val ins a || g.val ins b, g.val ins a != g.val ins b, if g.val ins a = true then g.val ins b else g.val ins c, xs.all (g.val ins), xs.any (g.val ins)] := by
  have m1 := orG_mk h a b ha hb (by omega)
  rw [← e1] at m1
  have l1 := m1.len
  have x1 := m1.ext
  have m2 := xorG_mk m1.fine a b (x1.isB ha) (x1.isB hb) (by omega)
  rw [← e2] at m2
  have l2 := m2.len
  have x2 := x1.trans m2.ext
  have m3 := muxG_mk m2.fine a b c (x2.isB ha) (x2.isB hb) (x2.isB hc) (by omega)
  rw [← e3] at m3
  have l3 := m3.len
  have x3 := x2.trans m3.ext
  have m4 := allG_mk m3.fine xs (fun x hm => x3.isB (hx x hm)) (by omega)
  rw [← e4] at m4
  have l4 := m4.len
  have x4 := x3.trans m4.ext
  have m5 := anyG_mk m4.fine xs (fun x hm => x4.isB (hx x hm)) (by omega)
  rw [← e5] at m5
  have l5 := m5.len
  have y4 := m5.ext
  have y3 := m4.ext.trans y4
  have y2 := m3.ext.trans y3
  have y1 := m2.ext.trans y2
  refine ⟨m5.fine, by omega, fun o ho => ?_, fun ins => ?_⟩
  · simp at ho
    rcases ho with rfl | rfl | rfl | rfl | rfl
    · exact y1.isB m1.lit
    · exact y2.isB m2.lit
    · exact y3.isB m3.lit
    · exact y4.isB m4.lit
    · exact m5.lit
  · have v1 := y1.val ins _ m1.lit
    have v2 := y2.val ins _ m2.lit
    have v3 := y3.val ins _ m3.lit
    have v4 := y4.val ins _ m4.lit
    have v5 := m5.val ins
    rw [m1.val] at v1
    rw [m2.val, x1.val ins a ha, x1.val ins b hb] at v2
    rw [m3.val, x2.val ins a ha, x2.val ins b hb, x2.val ins c hc] at v3
    have e : xs.map (r3.1.val ins) = xs.map (g.val ins) := List.map_congr_left fun x hm => x3.val ins x (hx x hm)
    have e' : xs.map (r4.1.val ins) = xs.map (g.val ins) := List.map_congr_left fun x hm => x4.val ins x (hx x hm)
    have f1 : xs.all (r3.1.val ins) = xs.all (g.val ins) := by
      have := congrArg (fun l => l.all id) e
      simpa [List.all_map] using this
    have f2 : xs.any (r4.1.val ins) = xs.any (g.val ins) := by
      have := congrArg (fun l => l.any id) e'
      simpa [List.any_map] using this
    rw [m4.val, f1] at v4
    rw [f2] at v5
    unfold evalV
    unfold Gr.val at v1 v2 v3 v4 v5 ⊢
    simp only [List.map_cons, List.map_nil]
    rw [v1, v2, v3, v4, v5]

set_option maxRecDepth 8000 in
set_option maxHeartbeats 8000000 in
theorem lawGw_any (A : Nat → Addr) (n x y z : Int) (a : Option Addr) (c : Nat) (ms : List Int) (w : World) (hS : Sents2 w A) (hv : RowAt w a c ms) (hms : ∀ y ∈ ms, -9223372036854775808 ≤ y ∧ y ≤ 9223372036854775807) (hn1 : -9223372036854775808 ≤ n) (hn2 : n ≤ 9223372036854775807)
    (hx1 : -9223372036854775808 ≤ x) (hx2 : x ≤ 9223372036854775807) (hy1 : -9223372036854775808 ≤ y) (hy2 : y ≤ 9223372036854775807) (hz1 : -9223372036854775808 ≤ z) (hz2 : z ≤ 9223372036854775807) :
    Calls Tryd.prog 4 #[.int .i64 n, .int .i64 x, .int .i64 y, .int .i64 z, .slice a ms.length c] w fun e w' => e = .returned (.bool true) ∧ Below w.heap.size w w' := by
  have HF := Lib.hid (first9_any A w hS)
  by_cases hout : 20 < ms.length
  · have d1 : decide (20 < ms.length) = true := decide_eq_true hout
    clear hv hms hS
    generalize ms.length = m at *
    go_enter Tryd.func4, Tryd.ntmps4
    go_wp2_with fail
    refine HF.out.mono ?_
    rintro e w1 ⟨rfl, hb1⟩
    go_wp2_with fail
    go_ret
    exact ⟨rfl, hb1⟩
  · have d1 : decide (20 < ms.length) = false := decide_eq_false hout
    have HE := Lib.hid (env0 hS)
    have HNEW := Lib.hid (fun W (hB : Below w.heap.size w W) => goNew (w := w) A hB 10 ⟨by decide, by decide⟩)
    have HG0 : Hid ((newG 10).Fine ∧ (newG 10).len = 10) := ⟨newG_fine _, rfl⟩
    have HVV : Hid (∀ ins l, (newG 10).val ins l = worthV (inV 10 ins) l) := fun ins l => rfl
    have HIB : Hid (∀ r : Int, 0 ≤ r → r < 22 → (newG 10).isB r = true) := fun r h0 h1 => isB_lt (newG 10) r h0 (by have : ((newG 10).len : Int) = 10 := rfl; omega)
    generalize newG 10 = g at *
    have HVAL := Lib.hid (fun W => values_any n 10 W hn1 hn2 (by omega))
    have bx := mod_pos9 x 22 (by omega)
    have by' := mod_pos9 y 22 (by omega)
    have bz := mod_pos9 z 22 (by omega)
    have NX := Lib.hid (fun W => number_any x 22 W (by omega) (by omega) hx1 hx2)
    have NY := Lib.hid (fun W => number_any y 22 W (by omega) (by omega) hy1 hy2)
    have NZ := Lib.hid (fun W => number_any z 22 W (by omega) (by omega) hz1 hz2)
    generalize x % 22 = xa at *
    generalize y % 22 = xb at *
    generalize z % 22 = xc at *
    obtain ⟨a0, a1⟩ := bx
    obtain ⟨b0, b1⟩ := by'
    obtain ⟨c0, c1⟩ := bz
    obtain ⟨hv1, hv2, hv3⟩ := hv
    unfold maxLen at hv2
    have HV := Lib.hid hv3; clear hv3
    have HMB : Hid (∀ k, k < ms.length → -9223372036854775808 ≤ ms.getD k 0 ∧ ms.getD k 0 ≤ 9223372036854775807) := fun k hk => hms _ (by simp [List.getD, hk])

    have HCH := Lib.hid (fun (xs : List Int) (hx : ∀ x ∈ xs, 0 ≤ x ∧ x < 22) (hl : xs.length ≤ 20) => worth_chain HG0.out.1 (by rw [HG0.out.2]; omega) (HIB.out xa a0 a1) (HIB.out xb b0 b1) (HIB.out xc c0 c1) (xs := xs) (fun x hm => HIB.out x (hx x hm).1 (hx x hm).2) hl _ _ _ _ _ rfl rfl rfl rfl rfl)
    clear hms hS
    generalize ms.length = m at *
    go_enter Tryd.func4, Tryd.ntmps4
    go_wp2_with fail
    refine HF.out.mono ?_
    rintro e w1 ⟨rfl, hb1⟩
    have HNW := Lib.hid (HNEW.out _ hb1)
    clear hb1 HNEW HF
    go_wp2_with fail
    refine HNW.out.mono ?_
    rintro e w2 ⟨p, rfl, hG⟩
    have HG2 := Lib.hid hG
    clear hG
    go_wp2_with fail
    refine (HVAL.out _).mono ?_
    rintro e w4 ⟨zv, ins, rfl, hz, hb4⟩
    have hil : ins.length = 10 := by have := hz.1; simpa using this
    have HG4 := Lib.hid (HG2.out.keep (grKind A (.pointer (some ⟨p, 0, none⟩))) hb4)
    have hlt2 : ∀ k, zv.ownBlock = some k → w2.heap.size ≤ k := fun k hk => (hz.lt k hk).1
    have HZ := Lib.hid hz
    have HLT := Lib.hid hlt2
    obtain ⟨az, cz, rfl, _, _⟩ := own_shape hz
    clear hz hlt2 HVAL
    -- Or, Xor, Mux: the row of values stands
    have HST : Hid (∃ S', EnvP A w4 S' ∧ GIn (GP A p) w4 S' g w4 ∧ (∀ k, (Value.slice az 10 cz).ownBlock = some k → k ∉ S') ∧ ∀ g' W', GIn (GP A p) w4 S' g' W' → GIn (GP A p) w [] g' W') := by
      obtain ⟨S', hE', hG', hlt, hback⟩ := HG2.out.rebase (gopP A _) HE.out hb4
      exact ⟨S', hE', hG', fun k hk hm => absurd (hlt k hm) (Nat.not_lt.2 (HLT.out k hk)), hback⟩
    obtain ⟨S', hE', hG', hoff, hback⟩ := HST.out
    have HBK := Lib.hid hback
    have HZ5 : Hid (∀ W, Chg S' w4 W → BRow W (.slice az 10 cz) ins) := fun W hC => own_rowG (own_chg HZ.out hC hoff)
    have HOR := Lib.hid (gor_any (gopP A _) hE' hG' xa xb a0 (by omega) b0 (by omega))
    have HXO := Lib.hid (fun g' W (h : GIn (GP A p) w4 S' g' W) => gxor_any (gopP A _) hE' h xa xb a0 (by omega) b0 (by omega))
    have HMU := Lib.hid (fun g' W (h : GIn (GP A p) w4 S' g' W) => gmux_any (gopP A _) hE' h xa xb xc a0 (by omega) b0 (by omega) c0 (by omega))
    have HEE := Lib.hid hE'
    have HZO : Hid (∀ W, Chg S' w4 W → W.ownsRow w2.heap.size 4 1 (.slice az 10 cz) 10 (ins.map Value.bool)) := fun W hC => own_chg HZ.out hC hoff
    clear hE' hG' hoff hback HST hb4 HZ HLT HG4 HG2
    generalize hr1 : orG g xa xb = r1 at *
    go_wp2_with fail
    refine (NX.out _).mono ?_
    rintro e w' ⟨rfl, rfl⟩
    go_wp2_with fail
    refine (NY.out _).mono ?_
    rintro e w' ⟨rfl, rfl⟩
    go_wp2_with fail
    refine (NZ.out _).mono ?_
    rintro e w' ⟨rfl, rfl⟩
    go_wp2_with fail
    refine HOR.out.mono ?_
    rintro e w5 ⟨rfl, hG⟩
    have HX5 := Lib.hid (HXO.out _ _ hG)
    clear hG
    generalize hr2 : xorG r1.1 xa xb = r2 at *
    go_wp2_with fail
    refine HX5.out.mono ?_
    rintro e w6 ⟨rfl, hG⟩
    have HX6 := Lib.hid (HMU.out _ _ hG)
    clear hG HX5 HOR HXO HMU
    generalize hr3 : muxG r2.1 xa xb xc = r3 at *
    go_wp2_with fail
    refine HX6.out.mono ?_
    rintro e w7 ⟨rfl, hG⟩
    have HG7 := Lib.hid hG
    have HB7 := Lib.hid (HZ5.out _ hG.2)
    have HIS := Lib.hid (fun l W (hW : Below w7.heap.size w7 W) h0 (h1 : l < 22) => is9_any _ ins l W (HB7.out.keep hW) h0 (by omega) (by rw [hil]; omega))
    clear hG HX6 HZ5
    rw [hil] at HIS
    have HIL := Lib.hid hil
    clear hil
    go_wp2_with fail
    go_loopw [20, 17, 18, 19, 21] (fun i u b1 b2 _ wr => ∃ (k : Nat) (xs : List Int), k ≤ m ∧ i = .int .i64 k ∧ b1 = .bool (xs.all (worthV (inV 10 ins))) ∧ b2 = .bool (xs.any (worthV (inV 10 ins))) ∧ wr.ownsRow w7.heap.size 3 1 u k (xs.map (Value.int .i64)) ∧ Below w7.heap.size w7 wr ∧ Hid (∀ x ∈ xs, 0 ≤ x ∧ x < 22) ∧ Hid (xs.length = k)) (fun i _ _ _ _ _ => m - (intOf i).toNat)
    case atStart => exact ⟨0, [], Nat.zero_le _, rfl, rfl, rfl, World.ownsRow_nil _ _ _ _, Below.refl _ _, fun x hx => (by cases hx), rfl⟩
    case round =>
      obtain ⟨k, xs, hk, rfl, rfl, rfl, hown, hbr, HXS, HXL⟩ := hrel
      obtain ⟨ab, cb, rfl, _, hcb⟩ := own_shape hown
      unfold maxLen at hcb
      by_cases hlt : k < m
      · obtain ⟨b, off, ha, hb, hc⟩ := HV.out.resolve_left (by omega)
        subst ha
        have hb7 : Below w.heap.size w wr := (HBK.out _ _ HG7.out).below.trans (hbr.mono (HBK.out _ _ HG7.out).below.size)
        have q0 := (hb7.cell (p := ⟨b, off + k, none⟩) hb).trans (hc k hlt)
        obtain ⟨z1, z2⟩ := HMB.out k hlt
        clear hc hb7
        generalize ms.getD k 0 = y at *
        have NK := Lib.hid (number_any y 22 wr (by omega) (by omega) z1 z2)
        have bk := mod_pos9 y 22 (by omega)
        generalize y % 22 = t at *
        obtain ⟨t0, t1⟩ := bk
        have hsz := hbr.size
        have HBR := Lib.hid hbr
        have HXN : Hid (∀ x ∈ xs ++ [t], 0 ≤ x ∧ x < 22) := fun x hx => by
          rcases List.mem_append.1 hx with h | h
          · exact HXS.out x h
          · rw [List.mem_singleton] at h; subst h; exact ⟨t0, t1⟩
        have HIT := Lib.hid (fun W hW => HIS.out t W hW t0 t1)
        have HAL : Hid ((xs ++ [t]).all (worthV (inV 10 ins)) = (xs.all (worthV (inV 10 ins)) && worthV (inV 10 ins) t)) := by unfold Hid; simp
        have HAY : Hid ((xs ++ [t]).any (worthV (inV 10 ins)) = (xs.any (worthV (inV 10 ins)) || worthV (inV 10 ins) t)) := by unfold Hid; simp
        generalize worthV (inV 10 ins) t = bt at *
        generalize xs.all (worthV (inV 10 ins)) = ba at *
        generalize xs.any (worthV (inV 10 ins)) = bo at *
        clear hbr
        cases ba
        all_goals
          cases bo
        all_goals
          go_wp2_with (first
            | (go_at_call 12; refine NK.out.mono ?_; rintro e w' ⟨rfl, rfl⟩)
            | (go_at_call 32; refine (HIT.out _ (HBR.out.trans hap5.below)).mono ?_; rintro e w' ⟨rfl, rfl⟩)
            | (at_builtin; refine wpList_app1 rfl _ _ rfl wr w7.heap.size _ _ _ t hown hsz (by omega) rfl rfl ?_; intro u' w5 hown5 hap5))
          go_roundw
          case rel => exact ⟨k + 1, xs ++ [t], by omega, by go_num, by rw [HAL.out]; first | rfl | simp, by rw [HAY.out]; first | rfl | simp, hown5, HBR.out.trans hap5.below, HXN.out, by unfold Hid; simp [HXL.out]⟩
          case measure => simp [intOf]; omega
      · have hkm : m = k := by omega
        subst hkm
        have HXL2 : Hid (xs.length ≤ 20) := by unfold Hid; rw [HXL.out]; omega
        have HCC := Lib.hid (HCH.out xs HXS.out HXL2.out)
        have HMID : Hid (∃ S2, EnvP A wr S2 ∧ GIn (GP A p) wr S2 r3.1 wr ∧ OffI wr S2 (.slice ab xs.length cb) xs ∧ (BRow wr (.slice az 10 cz) ins) ∧ (∀ g' W', GIn (GP A p) wr S2 g' W' → GIn (GP A p) w [] g' W') ∧ ∀ g' W', GIn (GP A p) wr S2 g' W' → BRow W' (.slice az 10 cz) ins) := by
          obtain ⟨S2, h1, h2, h3, h4⟩ := HG7.out.rebase (gopP A _) HEE.out hbr
          have hz7 := HZO.out _ HG7.out.2
          refine ⟨S2, h1, h2, by rw [HXL.out]; exact OffI.of_own hown h3, HB7.out.keep hbr, fun g' W' h => HBK.out _ _ (h4 _ _ h), fun g' W' h => ?_⟩
          exact own_rowG (HZO.out _ (h4 _ _ h).2)
        obtain ⟨S2, hE2, hG2, ho2, hB2, hback2, hbrow2⟩ := HMID.out
        have HBK2 := Lib.hid hback2
        have HBR2 := Lib.hid hbrow2
        have HALL := Lib.hid (gall_any (gopP A _) hE2 hG2 _ xs ho2 (fun l hl => by have := HXS.out l hl; omega))
        have HANY := Lib.hid (fun g' W (h : GIn (GP A p) wr S2 g' W) => gany_any (gopP A _) hE2 h _ xs ho2 (fun l hl => by have := HXS.out l hl; omega) (by have := HXL2.out; omega))
        rw [HXL.out] at HALL HANY
        generalize hr4 : allG r3.1 xs = r4 at *
        generalize hr5 : anyG r4.1 xs = r5 at *
        have HANY4 := Lib.hid (HANY.out r4.1)
        rw [hr5] at HANY4
        clear hE2 hG2 ho2 hB2 hback2 hbrow2 HMID hown hbr HANY hcb
        obtain ⟨HFN, HL8, HOS, HEQ⟩ := HCC.out
        have HRT := Lib.hid (fine_right HFN _ HOS HL8)
        have HQ := Lib.hid (HEQ ins)
        rw [HVV.out, HVV.out, HVV.out, show g.val ins = worthV (inV 10 ins) from funext fun l => HVV.out ins l] at HQ
        clear HFN HL8 HOS HEQ HCC
        go_wp2_with fail
        refine HALL.out.mono ?_
        rintro e w8 ⟨rfl, hG⟩
        have HN9 := Lib.hid (HANY4.out _ hG)
        clear hG
        go_wp2_with fail
        refine HN9.out.mono ?_
        rintro e w9 ⟨rfl, hG⟩
        have HAL : Hid (Below w9.heap.size w9 (w9.alloc (.cells #[.int .i64 r1.2, .int .i64 r2.2, .int .i64 r3.2, .int .i64 r4.2, .int .i64 r5.2] 3))) := (Below.refl _ _).alloc (Nat.le_refl _) _
        have HCI := Lib.hid (giCirc ((HBK2.out _ _ hG).keep (grKind A (.pointer (some ⟨p, 0, none⟩))) HAL.out) _ [r1.2, r2.2, r3.2, r4.2, r5.2] (own_row (own_lits w9 w9.heap.size [r1.2, r2.2, r3.2, r4.2, r5.2] (Nat.le_refl _) (by simp))) (by simp))
        have HB9 := Lib.hid ((HBK2.out _ _ hG).below.trans (HAL.out.mono (HBK2.out _ _ hG).below.size))
        have HBR9 := Lib.hid ((HBR2.out _ _ hG).keep HAL.out)
        clear hG HN9 HALL HANY4
        unfold CirPost at HCI
        go_wp2_with fail
        refine HCI.out.mono ?_
        rintro e w10 ⟨⟨u, v, rfl, hu, hvv⟩, hb10⟩
        have HB10 := Lib.hid (HB9.out.trans (hb10.mono HB9.out.size))
        have HBRT := Lib.hid (HBR9.out.keep hb10)
        have HEV := Lib.hid (eval_any r5.1.n _ _ _ r5.1.ands [r1.2, r2.2, r3.2, r4.2, r5.2] ins w10 (own_prow hu) (own_row hvv) HBRT.out (by rw [HIL.out]; omega) (by simp) HRT.out)
        rw [HQ.out] at HEV
        obtain ⟨au, cu, rfl, _, _⟩ := row_shape hu
        obtain ⟨av, cv, rfl, _, _⟩ := row_shape hvv
        unfold circV at HEV
        clear hu hvv hb10
        go_wp2_with fail
        refine HEV.out.mono ?_
        rintro e w11 ⟨z2, rfl, hz2, hb11⟩
        have HB11 := Lib.hid (HB10.out.trans (hb11.mono HB10.out.size))
        have HBR11 := Lib.hid (HBRT.out.keep hb11)
        have HI9 := Lib.hid (fun l k h0 (h1 : l < 22) => is9_any _ ins l (w11.drewN k) (HBR11.out.keep (below_drewN (Below.refl _ _) k)) h0 (by omega) (by rw [HIL.out]; omega))
        rw [HIL.out] at HI9
        have HIA := Lib.hid (fun k => HI9.out xa k a0 a1)
        have HIB9 := Lib.hid (fun k => HI9.out xb k b0 b1)
        have HIC := Lib.hid (HI9.out xc 0 c0 c1)
        have HIA0 := Lib.hid (HI9.out xa 0 a0 a1)
        have HIB0 := Lib.hid (HI9.out xb 0 b0 b1)
        obtain ⟨a2, c2, rfl, hz3, hz4, hz5⟩ := own_rowG (mk := Value.bool) (d := false) hz2
        obtain ⟨b2, off2, ha2, hb2, hc2⟩ := hz5.resolve_left (by simp)
        subst ha2
        have y0 := hc2 0 (by simp)
        have y1 := hc2 1 (by simp)
        have y2 := hc2 2 (by simp)
        have y3 := hc2 3 (by simp)
        have y4 := hc2 4 (by simp)
        simp only [List.getD_cons_zero, List.getD_cons_succ, Nat.add_zero] at y0 y1 y2 y3 y4
        simp only [List.length_cons, List.length_nil, Nat.zero_add] at hz3 ⊢
        unfold maxLen at hz4
        clear hz2 hb11 hc2 hz5 HEV HI9 HQ HVV HCH
        generalize xs.all (worthV (inV 10 ins)) = ba at *
        generalize xs.any (worthV (inV 10 ins)) = bo at *
        generalize worthV (inV 10 ins) xc = vc at *
        generalize worthV (inV 10 ins) xa = va at *
        generalize worthV (inV 10 ins) xb = vb at *
        cases va
        all_goals
          cases vb
        all_goals
          simp only [Bool.true_or, Bool.false_or, Bool.or_self, bne_self_eq_false, Bool.true_bne, Bool.false_bne, Bool.not_false, if_true, Bool.false_eq_true, if_false] at y0 y1 y2
          go_wp2_with (first
            | (go_at_call_of 32 (Value.int IntKind.i64 xc); refine HIC.out.mono ?_; rintro e w' ⟨rfl, rfl⟩)
            | (go_at_call_of 32 (Value.int IntKind.i64 xa); refine HIA0.out.mono ?_; rintro e w' ⟨rfl, rfl⟩)
            | (go_at_call_of 32 (Value.int IntKind.i64 xb); refine HIB0.out.mono ?_; rintro e w' ⟨rfl, rfl⟩))
          go_quiet ((first
            | (go_at_call_of 32 (Value.int IntKind.i64 xa); refine (HIA.out _).mono ?_; rintro e w' ⟨rfl, rfl⟩; exact ⟨rfl, _, rfl⟩)
            | (go_at_call_of 32 (Value.int IntKind.i64 xb); refine (HIB9.out _).mono ?_; rintro e w' ⟨rfl, rfl⟩; exact ⟨rfl, _, rfl⟩)))
          go_wp2_with fail
          go_ret
          exact ⟨rfl, below_drewN HB11.out _⟩
end Go.Proofs.YtbighmmjmklioaaDoor
