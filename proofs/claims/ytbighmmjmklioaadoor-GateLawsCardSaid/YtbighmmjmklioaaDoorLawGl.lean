/- The law GateLaws: true for whatever arguments. Conditions: the slice reads as 64-bit ints; the two errors lie as 'Sents2' says. -/
import Derived.Test.YtbighmmjmklioaaDoorGlF
namespace Go.Proofs.YtbighmmjmklioaaDoor
open Go.RowKit

theorem not_not_lit {g : Gr} {a : Int} (h : g.isB a = true) : notI (notI a) = a := (notI_of a ((isB_iff g a).1 h).1).2.2.2.1
theorem xor_self9 {g : Gr} {a : Int} (h : g.isB a = true) : xorG g a a = (g, 0) := by
  unfold xorG
  simp only [and_self g a h]
  rw [and_self g _ (isB_not h)]
  simp only
  rw [andG_comm, not_not_lit h, and_not g a h]
theorem xor_not9 {g : Gr} {a : Int} (h : g.isB a = true) : xorG g a (notI a) = (g, 1) := by
  unfold xorG
  simp only [and_not g a h]
  rw [not_not_lit h, andG_comm g a (notI a), and_not g a h]
  simp only
  rw [show notI 0 = 1 from rfl, and_one g 1 (isB_one g)]
theorem or_zero9 {g : Gr} {a : Int} (h : g.isB a = true) : orG g a 0 = (g, a) ∧ orG g 0 a = (g, a) := by
  unfold orG
  rw [show notI 0 = 1 from rfl, andG_comm g (notI a) 1, and_one g _ (isB_not h)]
  simp only
  rw [not_not_lit h]
  simp
theorem mux_one9 {g : Gr} {a b : Int} (h : g.isB a = true) (hb : g.isB b = true) : muxG g 1 a b = (g, a) := by
  unfold muxG
  rw [andG_comm, and_one g a h]
  simp only
  rw [show notI 1 = 0 from rfl, andG_comm, and_zero g b hb]
  exact (or_zero9 h).1
theorem mux_zero9 {g : Gr} {a b : Int} (h : g.isB a = true) (hb : g.isB b = true) : muxG g 0 a b = (g, b) := by
  unfold muxG
  rw [andG_comm, and_zero g a h]
  simp only
  rw [show notI 0 = 1 from rfl, andG_comm, and_one g b hb]
  exact (or_zero9 hb).2
theorem or_again9 {g : Gr} {a b : Int} (h : g.isB a = true) (hb : g.isB b = true) (hl : g.len < 8000) : andG (orG g a b).1 (notI a) (notI b) = ((orG g a b).1, notI (orG g a b).2) := by
  have h1 := andG_again g (notI a) (notI b) hl (isB_not h) (isB_not hb)
  have h2 := (isB_iff _ _).1 (andG_lit g (notI a) (notI b))
  unfold orG
  simp only
  rw [andG_comm, h1, (notI_of _ h2.1).2.2.2.1]
theorem mod_pos9 (x n : Int) (h : 0 < n) : 0 ≤ x % n ∧ x % n < n := ⟨Int.emod_nonneg _ (by omega), Int.emod_lt_of_pos _ h⟩

set_option maxRecDepth 8000 in
set_option maxHeartbeats 4000000 in
theorem lawGl_any (A : Nat → Addr) (a : Option Addr) (c : Nat) (ls : List Int) (x y n : Int) (w : World) (hS : Sents2 w A) (hv : RowAt w a c ls) (hls : ∀ y ∈ ls, -9223372036854775808 ≤ y ∧ y ≤ 9223372036854775807) (hx1 : -9223372036854775808 ≤ x) (hx2 : x ≤ 9223372036854775807) (hy1 : -9223372036854775808 ≤ y) (hy2 : y ≤ 9223372036854775807) (hn1 : -9223372036854775808 ≤ n) (hn2 : n ≤ 9223372036854775807) :
    Calls Tryd.prog 6 #[.slice a ls.length c, .int .i64 x, .int .i64 y, .int .i64 n] w fun e w' => e = .returned (.bool true) ∧ Below w.heap.size w w' := by
  have HF := Lib.hid (first9_any A w hS)
  by_cases hout : 40 < ls.length
  · have d1 : decide (40 < ls.length) = true := decide_eq_true hout
    clear hv hls hS
    generalize ls.length = m at *
    go_enter Tryd.func6, Tryd.ntmps6
    go_wp2_with fail
    refine HF.out.mono ?_
    rintro e w1 ⟨rfl, hb1⟩
    go_wp2_with fail
    go_ret
    exact ⟨rfl, hb1⟩
  · have d1 : decide (40 < ls.length) = false := decide_eq_false hout
    have HP := Lib.hid (fun W (hB : Below w.heap.size w W) => pair9_any A 8 (by omega) a c ls w W hS hB hv hls (by omega))
    have HE := Lib.hid (env0 hS)
    clear hv hls hS
    generalize ls.length = m at *
    go_enter Tryd.func6, Tryd.ntmps6
    go_wp2_with fail
    refine HF.out.mono ?_
    rintro e w1 ⟨rfl, hb1⟩
    have HPW := Lib.hid (HP.out _ hb1)
    clear hb1 HP HF
    go_wp2_with fail
    refine HPW.out.mono ?_
    rintro e w2 ⟨p, q, g, rfl, hP, hfine, hgn, hgl⟩
    have hG := hP.one
    clear hP HPW
    have HLEN := Lib.hid (giLen hG)
    clear hG
    -- the two literals
    have HIB : Hid (∀ r : Int, 0 ≤ r → r < 2 * (g.len : Int) + 2 → g.isB r = true) := fun r h0 h1 => isB_lt g r h0 h1
    have bx := mod_pos9 x (2 * (g.len : Int) + 2) (by omega)
    have by' := mod_pos9 y (2 * (g.len : Int) + 2) (by omega)
    have NA := Lib.hid (fun W => number_any x (2 * (g.len : Int) + 2) W (by omega) (by omega) hx1 hx2)
    have NB := Lib.hid (fun W => number_any y (2 * (g.len : Int) + 2) W (by omega) (by omega) hy1 hy2)
    generalize x % (2 * (g.len : Int) + 2) = xa at *
    generalize y % (2 * (g.len : Int) + 2) = xb at *
    have HXA := Lib.hid (HIB.out xa bx.1 bx.2)
    have HXB := Lib.hid (HIB.out xb by'.1 by'.2)
    have a0 : 0 ≤ xa := bx.1
    have b0 : 0 ≤ xb := by'.1
    have a1 : xa ≤ 1000 := by omega
    have b1 : xb ≤ 1000 := by omega
    have na := notI_of xa a0
    have nb := notI_of xb b0
    -- the graph behind Or
    have hor := orG_mk hfine xa xb HXA.out HXB.out (by omega)
    have hol := hor.len
    have hob := (isB_iff _ _).1 hor.lit
    have A1 := hor.ext.isB HXA.out
    have B1 := hor.ext.isB HXB.out
    have HAG := Lib.hid (or_again9 HXA.out HXB.out (show g.len < 8000 by omega))
    have HX1 := Lib.hid (xor_self9 A1)
    have HX2 := Lib.hid (xor_not9 A1)
    have HM1 := Lib.hid (mux_one9 A1 B1)
    have HM2 := Lib.hid (mux_zero9 A1 B1)
    have hmux := muxG_mk hor.fine xa xb xb A1 B1 B1 (by omega)
    have hml := hmux.len
    have hmb := (isB_iff _ _).1 hmux.lit
    have HMV : Hid (∀ ins, (muxG (orG g xa xb).1 xa xb xb).1.val ins (muxG (orG g xa xb).1 xa xb xb).2 = (muxG (orG g xa xb).1 xa xb xb).1.val ins xb) := fun ins => by
      rw [hmux.val, hmux.ext.val ins xb B1]; simp
    have HRT := Lib.hid (fine_right hmux.fine [(muxG (orG g xa xb).1 xa xb xb).2, xb] (fun o ho => by
      simp at ho
      rcases ho with rfl | rfl
      · exact hmux.lit
      · exact hmux.ext.isB B1) (by omega))
    -- the calls
    have HOR := Lib.hid (fun W (h : GIn (GP A p) w [] g W) => gor_any (gopP A _) HE.out h xa xb a0 (by omega) b0 (by omega))
    have HNA := Lib.hid (fun W => gnot_any xa W a0 (by omega))
    have HNB := Lib.hid (fun W => gnot_any xb W b0 (by omega))
    have HAN := Lib.hid (fun W (h : GIn (GP A p) w [] (orG g xa xb).1 W) => (gopP A _).gand HE.out h (notI xa) (notI xb) (in64_of na.1 (by omega)) (in64_of nb.1 (by omega)))
    rw [HAG.out] at HAN
    have HNY := Lib.hid (fun W => gnot_any (notI (orG g xa xb).2) W (by have := notI_of _ hob.1; omega) (by have := notI_of _ hob.1; omega))
    rw [(notI_of _ hob.1).2.2.2.1] at HNY
    have HXO1 := Lib.hid (fun W (h : GIn (GP A p) w [] (orG g xa xb).1 W) => gxor_any (gopP A _) HE.out h xa xa a0 (by omega) a0 (by omega))
    rw [HX1.out] at HXO1
    have HXO2 := Lib.hid (fun W (h : GIn (GP A p) w [] (orG g xa xb).1 W) => gxor_any (gopP A _) HE.out h xa (notI xa) a0 (by omega) na.1 (by omega))
    rw [HX2.out] at HXO2
    have HMU1 := Lib.hid (fun W (h : GIn (GP A p) w [] (orG g xa xb).1 W) => gmux_any (gopP A _) HE.out h 1 xa xb (by omega) (by omega) a0 (by omega) b0 (by omega))
    rw [HM1.out] at HMU1
    have HMU2 := Lib.hid (fun W (h : GIn (GP A p) w [] (orG g xa xb).1 W) => gmux_any (gopP A _) HE.out h 0 xa xb (by omega) (by omega) a0 (by omega) b0 (by omega))
    rw [HM2.out] at HMU2
    have HLE2 := Lib.hid (fun W (h : GIn (GP A p) w [] (orG g xa xb).1 W) => giLen h)
    have HMU3 := Lib.hid (fun W (h : GIn (GP A p) w [] (orG g xa xb).1 W) => gmux_any (gopP A _) HE.out h xa xb xb a0 (by omega) b0 (by omega) b0 (by omega))
    have hle : ((orG g xa xb).1.len : Int) ≤ (g.len : Int) + 1 := by omega
    have hml2 : (muxG (orG g xa xb).1 xa xb xb).1.len ≤ 8000 := by omega
    clear hor hob A1 B1 HAG HX1 HX2 HM1 HM2 hmux hml hmb hol hfine HIB bx by' na nb HXA HXB
    generalize muxG (orG g xa xb).1 xa xb xb = M at *
    generalize orG g xa xb = R at *
    generalize notI R.2 = yr at *
    generalize notI xa = za at *
    generalize notI xb = zb at *
    have HVAL := Lib.hid (fun W => values_any n 8 W hn1 hn2 (by omega))
    have HCI := Lib.hid (fun W o (h : GIn (GP A p) w [] M.1 W) (ho : Row W o [M.2, xb]) => giCirc h o [M.2, xb] ho (by simp))
    go_wp2_with fail
    refine HLEN.out.mono ?_
    rintro e w3 ⟨rfl, hG⟩
    have HG3 := Lib.hid hG
    clear hG
    go_wp2_with fail
    refine (NA.out _).mono ?_
    rintro e w' ⟨rfl, rfl⟩
    go_wp2_with fail
    refine (NB.out _).mono ?_
    rintro e w' ⟨rfl, rfl⟩
    have HL4 := Lib.hid (giLen HG3.out)
    go_wp2_with fail
    refine HL4.out.mono ?_
    rintro e w4 ⟨rfl, hG⟩
    have HC5 := Lib.hid (HOR.out _ hG)
    clear hG
    go_wp2_with fail
    refine HC5.out.mono ?_
    rintro e w5 ⟨rfl, hG⟩
    have HC6 := Lib.hid (HAN.out _ hG)
    clear hG
    go_wp2_with fail
    refine (HNA.out _).mono ?_
    rintro e w' ⟨rfl, rfl⟩
    go_wp2_with fail
    refine (HNB.out _).mono ?_
    rintro e w' ⟨rfl, rfl⟩
    go_wp2_with fail
    refine HC6.out.mono ?_
    rintro e w6 ⟨rfl, hG⟩
    have HC7 := Lib.hid (HXO1.out _ hG)
    clear hG
    go_wp2_with fail
    refine (HNY.out _).mono ?_
    rintro e w' ⟨rfl, rfl⟩
    go_wp2_with fail
    refine HC7.out.mono ?_
    rintro e w7 ⟨rfl, hG⟩
    have HC8 := Lib.hid (HXO2.out _ hG)
    clear hG
    go_wp2_with fail
    refine (HNA.out _).mono ?_
    rintro e w' ⟨rfl, rfl⟩
    go_wp2_with fail
    refine HC8.out.mono ?_
    rintro e w8 ⟨rfl, hG⟩
    have HC9 := Lib.hid (HMU1.out _ hG)
    clear hG
    go_wp2_with fail
    refine HC9.out.mono ?_
    rintro e w9 ⟨rfl, hG⟩
    have HC10 := Lib.hid (HMU2.out _ hG)
    clear hG
    go_wp2_with fail
    refine HC10.out.mono ?_
    rintro e w10 ⟨rfl, hG⟩
    have HC11 := Lib.hid (HLE2.out _ hG)
    clear hG
    go_wp2_with fail
    refine HC11.out.mono ?_
    rintro e w11 ⟨rfl, hG⟩
    have HC12 := Lib.hid (HMU3.out _ hG)
    clear hG
    have hgt : ¬ (g.len : Int) + 1 < (R.1.len : Int) := by omega
    go_wp2_with fail
    refine HC12.out.mono ?_
    rintro e w12 ⟨rfl, hG⟩
    have HAL : Hid (Below w12.heap.size w12 (w12.alloc (.cells #[.int .i64 M.2, .int .i64 xb] 3))) := (Below.refl _ _).alloc (Nat.le_refl _) _
    have HC13 := Lib.hid (HCI.out _ _ (hG.keep (grKind A (.pointer (some ⟨p, 0, none⟩))) HAL.out) (own_row (own_lits w12 w12.heap.size [M.2, xb] (Nat.le_refl _) (by simp))))
    have HB12 := Lib.hid (hG.below.trans (HAL.out.mono hG.below.size))
    clear hG
    unfold CirPost at HC13
    go_wp2_with fail
    refine HC13.out.mono ?_
    rintro e w13 ⟨⟨u, v, rfl, hu, hv⟩, hb13⟩
    have HU := Lib.hid (own_prow hu)
    have HV := Lib.hid (own_row hv)
    have HB13 := Lib.hid (HB12.out.trans (hb13.mono HB12.out.size))
    obtain ⟨au, cu, rfl, _, _⟩ := row_shape hu
    obtain ⟨av, cv, rfl, _, _⟩ := row_shape hv
    clear hu hv hb13
    go_wp2_with fail
    refine (HVAL.out _).mono ?_
    rintro e w14 ⟨z, ins, rfl, hz, hb14⟩
    have HB14 := Lib.hid (HB13.out.trans (hb14.mono HB13.out.size))
    have hil : ins.length = 8 := by have := hz.1; simpa using this
    have HEV := Lib.hid (eval_any M.1.n _ _ z M.1.ands [M.2, xb] ins w14 (HU.out.keep hb14) (HV.out.keep hb14) (own_rowG hz) (by omega) (by simp) HRT.out)
    have HEQ : Hid (evalV M.1.n M.1.ands [M.2, xb] ins = [M.1.val ins xb, M.1.val ins xb]) := by
      have := HMV.out ins
      unfold Hid evalV
      simp only [List.map_cons, List.map_nil]
      unfold Gr.val at this ⊢
      rw [this]
    rw [HEQ.out] at HEV
    obtain ⟨az, cz, rfl, _, _⟩ := own_shape hz
    unfold circV at HEV
    generalize M.1.val ins xb = bb at *
    clear hz hb14 hil HEQ HMV
    go_wp2_with fail
    refine HEV.out.mono ?_
    rintro e w15 ⟨z2, rfl, hz2, hb15⟩
    have HB15 := Lib.hid (HB14.out.trans (hb15.mono HB14.out.size))
    have HBR := own_rowG (mk := Value.bool) (d := false) hz2
    obtain ⟨a2, c2, rfl, hz3, hz4, hz5⟩ := HBR
    obtain ⟨b2, off2, ha2, hb2, hc2⟩ := hz5.resolve_left (by simp)
    subst ha2
    have y0 := hc2 0 (by simp)
    have y1 := hc2 1 (by simp)
    simp only [List.getD_cons_zero, List.getD_cons_succ, Nat.add_zero] at y0 y1
    simp only [List.length_cons, List.length_nil, Nat.zero_add, Nat.reduceAdd] at hz3 ⊢
    have hbb : (bb == bb) = true := by simp
    unfold maxLen at hz4
    clear hz2 hb15 hc2
    go_wp2_with fail
    go_quiet (fail)
    go_wp2_with fail
    go_ret
    exact ⟨rfl, below_drewN HB15.out _⟩
end Go.Proofs.YtbighmmjmklioaaDoor
