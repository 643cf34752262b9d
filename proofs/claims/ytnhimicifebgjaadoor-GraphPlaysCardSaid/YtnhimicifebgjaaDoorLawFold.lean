/- The law GraphFolds: true for whatever arguments. Conditions: the slice reads as 64-bit ints; the two errors lie as 'Sents2' says. -/
import Derived.Test.YtnhimicifebgjaaDoorGst
import Derived.Deep.RegionHeld3
import Derived.Deep.Light
namespace Go.Proofs.YtnhimicifebgjaaDoor
open Go.RowKit

theorem mod_bd (x n : Int) (h : 0 < n) : -n < x.tmod n ∧ x.tmod n < n := ⟨Int.lt_tmod_of_pos x h, Int.tmod_lt_of_pos x h⟩
theorem mod_nn (x n : Int) (h : 0 < n) : 0 ≤ (x.tmod n + n).tmod n ∧ (x.tmod n + n).tmod n < n := by
  have := mod_bd x n h
  exact ⟨Int.tmod_nonneg _ (by omega), Int.tmod_lt_of_pos _ h⟩
theorem isB_lt (g : Gr) (x : Int) (h0 : 0 ≤ x) (h1 : x < 2 * (g.len : Int) + 2) : g.isB x = true := by
  rw [isB_iff]; omega

set_option maxRecDepth 8000 in
set_option maxHeartbeats 4000000 in
theorem lawFolds_any (A : Nat → Addr) (n : Int) (a : Option Addr) (c : Nat) (ls : List Int) (x y : Int) (w : World) (hS : Sents2 w A) (hn1 : -9223372036854775808 ≤ n) (hn2 : n ≤ 9223372036854775807) (hv : RowAt w a c ls) (hls : ∀ y ∈ ls, -9223372036854775808 ≤ y ∧ y ≤ 9223372036854775807) :
    Calls Tryd.prog 5 #[.int .i64 n, .slice a ls.length c, .int .i64 x, .int .i64 y] w fun e w' => e = .returned (.bool true) ∧ Below w.heap.size w w' := by
  have HF := Lib.hid (first8_any A w hS)
  by_cases hout : 80 < ls.length ∨ n < 1 ∨ 20 < n
  · clear hv hls hS
    by_cases d1 : 80 < ls.length
    · have d1' : decide (80 < ls.length) = true := decide_eq_true d1
      generalize ls.length = m at *
      go_enter Tryd.func5, Tryd.ntmps5
      go_wp2_with fail
      refine HF.out.mono ?_
      rintro e w1 ⟨rfl, hb1⟩
      go_wp2_with fail
      go_ret
      exact ⟨rfl, hb1⟩
    · have d1' : decide (80 < ls.length) = false := decide_eq_false d1
      by_cases d2 : n < 1
      · generalize ls.length = m at *
        clear hout
        go_enter Tryd.func5, Tryd.ntmps5
        go_wp2_with fail
        refine HF.out.mono ?_
        rintro e w1 ⟨rfl, hb1⟩
        go_wp2_with fail
        go_ret
        exact ⟨rfl, hb1⟩
      · have d3 : 20 < n := by omega
        generalize ls.length = m at *
        clear hout
        go_enter Tryd.func5, Tryd.ntmps5
        go_wp2_with fail
        refine HF.out.mono ?_
        rintro e w1 ⟨rfl, hb1⟩
        go_wp2_with fail
        go_ret
        exact ⟨rfl, hb1⟩
  · have d1 : ¬ 80 < ls.length := fun h => hout (.inl h)
    have d2 : ¬ n < 1 := fun h => hout (.inr (.inl h))
    have d3 : ¬ 20 < n := fun h => hout (.inr (.inr h))
    have d1' : decide (80 < ls.length) = false := decide_eq_false d1
    clear hout
    obtain ⟨hv1, hv2, hv3⟩ := hv
    unfold maxLen at hv2
    have HV := Lib.hid hv3; clear hv3
    have HBD : Hid (∀ k, k < ls.length → -9223372036854775808 ≤ ls.getD k 0 ∧ ls.getD k 0 ≤ 9223372036854775807) := fun k hk => hls _ (by simp [List.getD, hk])
    have HS := Lib.hid hS
    clear hls hS
    generalize hm : ls.length = m at *
    have HM := Lib.hid hm; clear hm
    have HG0 : Hid ((newG n).n = n.toNat ∧ (newG n).len ≤ 20 ∧ (newG n).bad = 0) := ⟨by simp only [newG]; omega, by simp only [newG, Gr.len, List.length_nil]; omega, rfl⟩
    go_enter Tryd.func5, Tryd.ntmps5
    go_wp2_with fail
    refine HF.out.mono ?_
    rintro e w1 ⟨rfl, hb1⟩
    go_wp2_with fail
    refine (gsNew A hb1 n ⟨hn1, hn2⟩).mono ?_
    rintro e w2 ⟨v, rfl, hG⟩
    obtain ⟨p, rfl⟩ := hG.ptr
    generalize newG n = g0 at *
    clear hb1 HF
    go_wp2_with fail
    go_loopw [11, 12] (fun i _ wr => ∃ (k : Nat) (g : Gr), 2 * k ≤ m + 1 ∧ i = .int .i64 ((2 * k : Nat) : Int) ∧ GSt w A (.pointer (some ⟨p, 0, none⟩)) g wr ∧ Hid (g.len ≤ 20 + k ∧ g.bad = 0)) (fun i _ _ => m + 2 - (intOf i).toNat)
    case atStart => exact ⟨0, g0, by omega, rfl, hG, ⟨HG0.out.2.1, HG0.out.2.2⟩⟩
    case round =>
      obtain ⟨k, g, hk, rfl, hGr, HG⟩ := hrel
      clear hG HG0
      by_cases hlt : 2 * k + 1 < m
      · obtain ⟨b, off, ha, hb, hc⟩ := HV.out.resolve_left (by omega)
        subst ha
        have q0 := hc (2 * k) (by omega)
        have q1 := hc (2 * k + 1) hlt
        obtain ⟨z1, z2⟩ := HBD.out (2 * k) (by omega)
        obtain ⟨z3, z4⟩ := HBD.out (2 * k + 1) hlt
        clear hc
        generalize ls.getD (2 * k) 0 = x0 at *
        generalize ls.getD (2 * k + 1) 0 = x1 at *
        have HC : Hid (∀ W, Below w.heap.size w W → W.cell? ⟨b, off + 2 * k, none⟩ = some (.int .i64 x0) ∧ W.cell? ⟨b, off + (2 * k + 1), none⟩ = some (.int .i64 x1)) := fun W hW => ⟨(hW.cell (p := ⟨b, off + 2 * k, none⟩) hb).trans q0, (hW.cell (p := ⟨b, off + (2 * k + 1), none⟩) hb).trans q1⟩
        clear q0 q1
        have hd1 : decide (2 * k + 1 < m) = true := decide_eq_true hlt
        go_wp2_with fail
        refine (gsLen hGr).mono ?_
        rintro e w3 ⟨rfl, hG3⟩
        have hgl : g.len ≤ 20 + k := HG.out.1
        go_wp2_with fail
        have hNp : (0 : Int) < 2 * (g.len : Int) + 2 := by omega
        have hNb : 2 * (g.len : Int) + 2 ≤ 20000 := by omega
        have HNE : Hid (∀ r : Int, 0 ≤ r → r < 2 * (g.len : Int) + 2 → g.isB r = true) := fun r h0 h1 => isB_lt g r h0 h1
        generalize 2 * (g.len : Int) + 2 = N at *
        obtain ⟨m1, m2⟩ := mod_bd x0 N hNp
        obtain ⟨m3, m4⟩ := mod_bd x1 N hNp
        obtain ⟨n1, n2⟩ := mod_nn x0 N hNp
        obtain ⟨n3, n4⟩ := mod_nn x1 N hNp
        have ww1 : IntKind.i64.wrap (x0.tmod N) = x0.tmod N := IntWalk.i64_in _ (by omega)
        have ww2 : IntKind.i64.wrap (x1.tmod N) = x1.tmod N := IntWalk.i64_in _ (by omega)
        have ww4 : IntKind.i64.wrap (x0.tmod N + N) = x0.tmod N + N := IntWalk.i64_in _ (by omega)
        have ww5 : IntKind.i64.wrap (x1.tmod N + N) = x1.tmod N + N := IntWalk.i64_in _ (by omega)
        have ww6 : IntKind.i64.wrap (2 * (k : Int) + 1) = 2 * (k : Int) + 1 := IntWalk.i64_in _ (by omega)
        have ww7 : IntKind.i64.wrap ((x0.tmod N + N).tmod N) = (x0.tmod N + N).tmod N := IntWalk.i64_in _ (by omega)
        have ww8 : IntKind.i64.wrap ((x1.tmod N + N).tmod N) = (x1.tmod N + N).tmod N := IntWalk.i64_in _ (by omega)
        have HIB := Lib.hid (And.intro (HNE.out _ n1 n2) (HNE.out _ n3 n4))
        have HAN := Lib.hid (gsAnd (W := w3.drew) HS.out (hG3.keep (Below.refl _ _).drew) ((x0.tmod N + N).tmod N) ((x1.tmod N + N).tmod N) ⟨by omega, by omega⟩ ⟨by omega, by omega⟩)
        have HB3 := Lib.hid hG3.bel
        have i0 : (0 : Int) ≤ 2 * (k : Int) := by omega
        have i1 : 2 * (k : Int) < (m : Int) := by omega
        have i2 : (0 : Int) ≤ 2 * (k : Int) + 1 := by omega
        have i3 : 2 * (k : Int) + 1 < (m : Int) := by omega
        have t1 : (2 * (k : Int)).toNat = 2 * k := by omega
        have t2 : (2 * (k : Int) + 1).toNat = 2 * k + 1 := by omega
        have hN1 : ¬ N = 0 := by omega
        go_region_held3 (fun W => W.cell? ⟨b, off + 2 * k, none⟩ = some (.int .i64 x0) ∧ W.cell? ⟨b, off + (2 * k + 1), none⟩ = some (.int .i64 x1)) (first | exact HC.out _ HB3.out | exact HC.out _ HB3.out.drew | exact HC.out _ hG4.bel) (first
          | (go_at_call 16; refine HAN.out.mono ?_; rintro e w4 ⟨rfl, hG4⟩))
        have hgr := andG_grow g ((x0.tmod N + N).tmod N) ((x1.tmod N + N).tmod N)
        have HNX : Hid ((andG g ((x0.tmod N + N).tmod N) ((x1.tmod N + N).tmod N)).1.len ≤ 20 + (k + 1) ∧ (andG g ((x0.tmod N + N).tmod N) ((x1.tmod N + N).tmod N)).1.bad = 0) := ⟨by omega, by rw [andG_bad g _ _ HIB.out.1 HIB.out.2 (by omega)]; exact HG.out.2⟩
        generalize (andG g ((x0.tmod N + N).tmod N) ((x1.tmod N + N).tmod N)).1 = g2 at *
        generalize (andG g ((x0.tmod N + N).tmod N) ((x1.tmod N + N).tmod N)).2 = r2 at *
        clear ww1 ww2 ww4 ww5 ww6 ww7 ww8 i0 i1 i2 i3 t1 t2 hgr
        go_wp2_with fail
        go_roundw
        case rel => exact ⟨k + 1, g2, by omega, by go_num, hG4, HNX.out⟩
        case measure => simp [intOf]; omega
      · have hgl : g.len ≤ 20 + k := HG.out.1
        have hgb := HG.out.2
        have hd1 : decide (2 * k + 1 < m) = false := decide_eq_false hlt
        have HGB := Lib.hid hgb
        clear hgb
        go_wp2_with fail
        refine (gsLen hGr).mono ?_
        rintro e w3 ⟨rfl, hG3⟩
        have hNp : (0 : Int) < 2 * (g.len : Int) + 2 := by omega
        have hNb : 2 * (g.len : Int) + 2 ≤ 20000 := by omega
        have HNE : Hid (∀ r : Int, 0 ≤ r → r < 2 * (g.len : Int) + 2 → g.isB r = true) := fun r h0 h1 => isB_lt g r h0 h1
        obtain ⟨m1, m2⟩ := mod_bd x (2 * (g.len : Int) + 2) hNp
        obtain ⟨m3, m4⟩ := mod_bd y (2 * (g.len : Int) + 2) hNp
        go_wp2_with fail
        have ex1 := Int.emod_nonneg (x.tmod (2 * (g.len : Int) + 2) + (2 * (g.len : Int) + 2)) (show (2 * (g.len : Int) + 2) ≠ 0 by omega)
        have ex2 := Int.emod_lt_of_pos (x.tmod (2 * (g.len : Int) + 2) + (2 * (g.len : Int) + 2)) hNp
        have ey1 := Int.emod_nonneg (y.tmod (2 * (g.len : Int) + 2) + (2 * (g.len : Int) + 2)) (show (2 * (g.len : Int) + 2) ≠ 0 by omega)
        have ey2 := Int.emod_lt_of_pos (y.tmod (2 * (g.len : Int) + 2) + (2 * (g.len : Int) + 2)) hNp
        generalize (x.tmod (2 * (g.len : Int) + 2) + (2 * (g.len : Int) + 2)) % (2 * (g.len : Int) + 2) = xa at *
        generalize (y.tmod (2 * (g.len : Int) + 2) + (2 * (g.len : Int) + 2)) % (2 * (g.len : Int) + 2) = ya at *
        have HXB := Lib.hid (HNE.out xa ex1 ex2)
        have HYB := Lib.hid (HNE.out ya ey1 ey2)
        clear m1 m2 m3 m4 hGr HNE
        have hxb : xa ≤ 20000 := by omega
        have hyb : ya ≤ 20000 := by omega
        have hnn := notI_of xa ex1
        have HNN := Lib.hid hnn
        have hz1 : 0 ≤ notI xa := hnn.1
        have hz2 : notI xa ≤ 20001 := by omega
        clear hnn
        refine (gsLen hG3).mono ?_
        rintro e w4 ⟨rfl, hG4⟩
        clear hG3
        have H1 := Lib.hid (gsAnd HS.out hG4 xa 0 ⟨by omega, by omega⟩ ⟨by omega, by omega⟩)
        rw [and_zero g xa HXB.out] at H1
        clear hG4
        go_wp2_with fail
        refine H1.out.mono ?_
        rintro e w5 ⟨rfl, hG5⟩
        have H2 := Lib.hid (gsAnd HS.out hG5 0 xa ⟨by omega, by omega⟩ ⟨by omega, by omega⟩)
        rw [andG_comm, and_zero g xa HXB.out] at H2
        clear hG5 H1
        go_wp2_with fail
        refine H2.out.mono ?_
        rintro e w6 ⟨rfl, hG6⟩
        have H3 := Lib.hid (gsAnd HS.out hG6 xa 1 ⟨by omega, by omega⟩ ⟨by omega, by omega⟩)
        rw [and_one g xa HXB.out] at H3
        clear hG6 H2
        go_wp2_with fail
        refine H3.out.mono ?_
        rintro e w7 ⟨rfl, hG7⟩
        have H4 := Lib.hid (gsAnd HS.out hG7 1 xa ⟨by omega, by omega⟩ ⟨by omega, by omega⟩)
        rw [andG_comm, and_one g xa HXB.out] at H4
        clear hG7 H3
        go_wp2_with fail
        refine H4.out.mono ?_
        rintro e w8 ⟨rfl, hG8⟩
        have H5 := Lib.hid (gsAnd HS.out hG8 xa xa ⟨by omega, by omega⟩ ⟨by omega, by omega⟩)
        rw [and_self g xa HXB.out] at H5
        clear hG8 H4
        go_wp2_with fail
        refine H5.out.mono ?_
        rintro e w9 ⟨rfl, hG9⟩
        have H6 := Lib.hid (gsAnd HS.out hG9 xa (notI xa) ⟨by omega, by omega⟩ ⟨by omega, by omega⟩)
        rw [and_not g xa HXB.out] at H6
        clear hG9 H5
        have HNT := Lib.hid (fun W => gnot_any xa W ex1 (by omega))
        have HNU := Lib.hid (fun W => gnot_any (notI xa) W hz1 (by omega))
        rw [HNN.out.2.2.2.1] at HNU
        have hzx : (notI xa != xa) = true := by simp; exact HNN.out.2.2.2.2
        generalize notI xa = xn at *
        go_wp2_with fail
        refine (HNT.out _).mono ?_
        rintro e w' ⟨rfl, rfl⟩
        go_wp2_with fail
        refine H6.out.mono ?_
        rintro e w10 ⟨rfl, hG10⟩
        clear H6
        go_wp2_with fail
        refine (gsLen hG10).mono ?_
        rintro e w11 ⟨rfl, hG11⟩
        have H7 := Lib.hid (gsAnd HS.out hG11 xa ya ⟨by omega, by omega⟩ ⟨by omega, by omega⟩)
        have hgr := andG_grow g xa ya
        have HAG := Lib.hid (andG_again g xa ya (by omega) HXB.out HYB.out)
        have HBA := Lib.hid (andG_bad g xa ya HXB.out HYB.out (by omega))
        have hle : ((andG g xa ya).1.len : Int) ≤ (g.len : Int) + 1 := by omega
        have hle8 : (andG g xa ya).1.len ≤ 200 := by omega
        clear hgr hG10 hG11
        go_wp2_with fail
        refine H7.out.mono ?_
        rintro e w12 ⟨rfl, hG12⟩
        have H8 := Lib.hid (gsAnd HS.out hG12 ya xa ⟨by omega, by omega⟩ ⟨by omega, by omega⟩)
        rw [HAG.out] at H8
        clear H7 HAG hG12
        generalize (andG g xa ya).2 = rr at *
        generalize (andG g xa ya).1 = g2 at *
        go_wp2_with fail
        refine H8.out.mono ?_
        rintro e w13 ⟨rfl, hG13⟩
        clear H8
        go_wp2_with fail
        refine (gsLen hG13).mono ?_
        rintro e w14 ⟨rfl, hG14⟩
        have HER := Lib.hid (gsErr hG14)
        rw [HBA.out, HGB.out, show errC A 0 = .nilIface from rfl] at HER
        have HBE := Lib.hid hG14.bel
        clear hG13 hG14
        go_wp2_with fail
        refine HER.out.mono ?_
        rintro e w' ⟨rfl, rfl⟩
        go_wp2_with fail
        refine (HNT.out _).mono ?_
        rintro e w' ⟨rfl, rfl⟩
        go_wp2_with fail
        refine (HNU.out _).mono ?_
        rintro e w' ⟨rfl, rfl⟩
        go_wp2_with fail
        refine (HNT.out _).mono ?_
        rintro e w' ⟨rfl, rfl⟩
        go_wp2_with fail
        go_ret
        exact ⟨rfl, HBE.out⟩
end Go.Proofs.YtnhimicifebgjaaDoor
