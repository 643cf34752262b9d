/- The law GraphErrs: true for whatever arguments. Conditions: the arguments are 64-bit ints; the errors lie as 'Sents' says. -/
import Derived.Test.YtnhimicifebgjaaDoorGst
import Derived.Test.YtnhimicifebgjaaDoorIsE
namespace Go.Proofs.YtnhimicifebgjaaDoor
open Go.RowKit

theorem andG_free (g : Gr) (c a b : Int) : (andG ⟨g.n, g.ands, c⟩ a b).2 = (andG g a b).2 := by
  unfold andG
  have hi : ∀ l, (⟨g.n, g.ands, c⟩ : Gr).isB l = g.isB l := fun _ => rfl
  rw [hi, hi]
  split
  · unfold andN
    split
    · rfl
    · split
      · rfl
      · split
        · rfl
        · have hl : (⟨g.n, g.ands, c⟩ : Gr).len = g.len := rfl
          rw [hl]
          split <;> rfl
  · rfl
theorem fail_ne {g : Gr} (h : g.bad ≠ 0) (c : Int) : g.fail c = g := by unfold Gr.fail; rw [if_neg h]
theorem andG_keeps (g : Gr) (a b : Int) (h : g.bad ≠ 0) : (andG g a b).1.bad = g.bad := by
  unfold andG
  split
  · unfold andN
    split
    · rfl
    · split
      · rfl
      · split
        · rfl
        · split
          · rw [fail_ne h]
          · rfl
  · rw [fail_ne h]
theorem sents_two {w : World} {A : Nat → Addr} (h : Sents w A) : Sents2 w A := h.two

set_option maxRecDepth 8000 in
set_option maxHeartbeats 4000000 in
theorem lawErrs_any (A : Nat → Addr) (n r a b : Int) (w : World) (hS : Sents w A) (hn1 : -9223372036854775808 ≤ n) (hn2 : n ≤ 9223372036854775807) (hr1 : -9223372036854775808 ≤ r) (hr2 : r ≤ 9223372036854775807)
    (ha1 : -9223372036854775808 ≤ a) (ha2 : a ≤ 9223372036854775807) (hb1 : -9223372036854775808 ≤ b) (hb2 : b ≤ 9223372036854775807) :
    Calls Tryd.prog 7 #[.int .i64 n, .int .i64 r, .int .i64 a, .int .i64 b] w fun e w' => e = .returned (.bool true) ∧ Below w.heap.size w w' := by
  have HF := Lib.hid (first8_any A w hS.two)
  have HS := Lib.hid hS
  clear hS
  have HN1 := Lib.hid (fun W => number_any n 9 W (by omega) (by omega) hn1 hn2)
  have HN2 := Lib.hid (fun t W (h1 : (0 : Int) < t) (h2 : t ≤ 30) => number_any a t W h1 (by omega) ha1 ha2)
  have HN3 := Lib.hid (fun t W (h1 : (0 : Int) < t) (h2 : t ≤ 30) => number_any b t W h1 (by omega) hb1 hb2)
  have HN4 := Lib.hid (fun W => number_any r 1000 W (by omega) (by omega) hr1 hr2)
  have k1 := Int.emod_nonneg n (show (9 : Int) ≠ 0 by omega)
  have k2 := Int.emod_lt_of_pos n (show (0 : Int) < 9 by omega)
  have k3 := Int.emod_nonneg r (show (1000 : Int) ≠ 0 by omega)
  have k4 := Int.emod_lt_of_pos r (show (0 : Int) < 1000 by omega)
  generalize n % 9 = nn at *
  generalize r % 1000 = rr at *
  go_enter Tryd.func7, Tryd.ntmps7
  go_wp2_with fail
  refine HF.out.mono ?_
  rintro e w1 ⟨rfl, hb1⟩
  go_wp2_with fail
  refine (HN1.out _).mono ?_
  rintro e w' ⟨rfl, rfl⟩
  go_wp2_with fail
  refine (gsNew A hb1 (nn + 1) ⟨by omega, by omega⟩).mono ?_
  rintro e w2 ⟨v, rfl, hG⟩
  obtain ⟨p, rfl⟩ := hG.ptr
  have HG0 : Hid (newG (nn + 1) = ⟨(nn + 1).toNat, [], 0⟩) := by unfold Hid newG; congr 1; omega
  rw [HG0.out] at hG
  clear HF hb1 HG0
  obtain ⟨ni, hni⟩ : ∃ ni : Nat, nn = (ni : Int) := ⟨nn.toNat, by omega⟩
  subst hni
  have hto : ((ni : Int) + 1).toNat = ni + 1 := by omega
  rw [hto] at hG
  clear hto
  have t1 : (0 : Int) < 2 * ((ni : Int) + 1) + 2 := by omega
  have t2 : 2 * ((ni : Int) + 1) + 2 ≤ 30 := by omega
  have e1 := Int.emod_nonneg a (show 2 * ((ni : Int) + 1) + 2 ≠ 0 by omega)
  have e2 := Int.emod_lt_of_pos a t1
  have e3 := Int.emod_nonneg b (show 2 * ((ni : Int) + 1) + 2 ≠ 0 by omega)
  have e4 := Int.emod_lt_of_pos b t1
  have HNA := Lib.hid (fun W => HN2.out _ W t1 t2)
  have HNB := Lib.hid (fun W => HN3.out _ W t1 t2)
  clear HN2 HN3
  generalize a % (2 * ((ni : Int) + 1) + 2) = xa at *
  generalize b % (2 * ((ni : Int) + 1) + 2) = xb at *
  have HXA : Hid ((⟨ni + 1, [], 0⟩ : Gr).isB xa = true) := by unfold Hid; rw [isB_iff]; simp only [Gr.len, List.length_nil]; omega
  have HXB : Hid ((⟨ni + 1, [], 0⟩ : Gr).isB xb = true) := by unfold Hid; rw [isB_iff]; simp only [Gr.len, List.length_nil]; omega
  go_wp2_with fail
  refine (HNA.out _).mono ?_
  rintro e w' ⟨rfl, rfl⟩
  go_wp2_with fail
  refine (HNB.out _).mono ?_
  rintro e w' ⟨rfl, rfl⟩
  have H1 := Lib.hid (gsAnd HS.out.two hG xa xb ⟨by omega, by omega⟩ ⟨by omega, by omega⟩)
  have hgr := andG_grow ⟨ni + 1, [], 0⟩ xa xb
  have HGN : Hid ((andG ⟨ni + 1, [], 0⟩ xa xb).1.n = ni + 1) := andG_n _ _ _
  have HGB : Hid ((andG ⟨ni + 1, [], 0⟩ xa xb).1.bad = 0) := andG_bad _ _ _ HXA.out HXB.out (by simp only [Gr.len, List.length_nil]; omega)
  have HGL : Hid ((andG ⟨ni + 1, [], 0⟩ xa xb).1.len ≤ ni + 2) := by unfold Hid; simp only [Gr.len, List.length_nil] at hgr ⊢; omega
  have HAG := Lib.hid (andG_again ⟨ni + 1, [], 0⟩ xa xb (by simp only [Gr.len, List.length_nil]; omega) HXA.out HXB.out)
  have HXA1 : Hid ((andG ⟨ni + 1, [], 0⟩ xa xb).1.isB xa = true) := isB_more hgr.2.1 HXA.out
  clear hgr hG HNA HNB HXA HXB
  go_wp2_with fail
  refine H1.out.mono ?_
  rintro e w3 ⟨rfl, hG1⟩
  generalize (andG ⟨ni + 1, [], 0⟩ xa xb).2 = xx at *
  generalize (andG ⟨ni + 1, [], 0⟩ xa xb).1 = g1 at *
  clear H1
  have HE1 := Lib.hid (gsErr hG1)
  rw [HGB.out, show errC A 0 = .nilIface from rfl] at HE1
  go_wp2_with fail
  refine HE1.out.mono ?_
  rintro e w' ⟨rfl, rfl⟩
  clear HE1
  have HF1 : Hid (andG g1 xa (2 * ((ni : Int) + 1) + 2 + 2 + rr) = (g1.fail 104, 0)) := by
    unfold Hid andG
    have : g1.isB (2 * ((ni : Int) + 1) + 2 + 2 + rr) = false := by
      rw [Bool.eq_false_iff]
      intro h
      have := (isB_iff _ _).1 h
      have := HGL.out
      omega
    rw [this, Bool.and_false, if_neg (by simp)]
  have H2 := Lib.hid (gsAnd HS.out.two hG1 xa (2 * ((ni : Int) + 1) + 2 + 2 + rr) ⟨by omega, by omega⟩ ⟨by omega, by omega⟩)
  rw [HF1.out] at H2
  have HFB : Hid ((g1.fail 104).bad = 104) := by unfold Hid Gr.fail; rw [if_pos HGB.out]
  have HFN : Hid ((g1.fail 104).n = ni + 1) := HGN.out
  have HFA : Hid ((andG (g1.fail 104) xb xa).2 = xx) := by
    have := andG_free g1 104 xb xa
    rw [HAG.out] at this
    unfold Hid Gr.fail
    rw [if_pos HGB.out]
    exact this
  clear hG1 HF1
  generalize g1.fail 104 = g2 at *
  go_wp2_with fail
  refine (HN4.out _).mono ?_
  rintro e w' ⟨rfl, rfl⟩
  go_wp2_with fail
  refine H2.out.mono ?_
  rintro e w4 ⟨rfl, hG2⟩
  clear H2
  have H3 := Lib.hid (gsAnd HS.out.two hG2 (-1) xb ⟨by omega, by omega⟩ ⟨by omega, by omega⟩)
  rw [show andG g2 (-1) xb = (g2.fail 104, 0) by unfold andG; rw [if_neg (by simp [Gr.isB])], fail_ne (by rw [HFB.out]; decide)] at H3
  clear hG2
  go_wp2_with fail
  refine H3.out.mono ?_
  rintro e w5 ⟨rfl, hG3⟩
  clear H3
  have H4 := Lib.hid (gsIn HS.out.two hG3 ((ni : Int) + 1) ⟨by omega, by omega⟩)
  rw [show inG g2 ((ni : Int) + 1) = (g2.fail 104, 0) by unfold inG; rw [if_neg (by rw [HFN.out]; omega)], fail_ne (by rw [HFB.out]; decide)] at H4
  clear hG3
  go_wp2_with fail
  refine H4.out.mono ?_
  rintro e w6 ⟨rfl, hG4⟩
  clear H4
  have H5 := Lib.hid (gsAnd HS.out.two hG4 xb xa ⟨by omega, by omega⟩ ⟨by omega, by omega⟩)
  rw [HFA.out] at H5
  have HFB5 : Hid ((andG g2 xb xa).1.bad = 104) := (andG_keeps g2 xb xa (by rw [HFB.out]; decide)).trans HFB.out
  have HFN5 : Hid ((andG g2 xb xa).1.n = ni + 1) := (andG_n _ _ _).trans HFN.out
  clear hG4
  generalize (andG g2 xb xa).1 = g3 at *
  go_wp2_with fail
  refine H5.out.mono ?_
  rintro e w7 ⟨rfl, hG5⟩
  clear H5
  have HE2 := Lib.hid (gsErr hG5)
  rw [HFB5.out] at HE2
  have HB7 := Lib.hid hG5.bel
  have HEA := Lib.hid (isE_any (errC A 104) 104 w7 (errAs_sent (HS.out.keep HB7.out) 3 (by decide)))
  rw [errC_ran] at HE2 HEA
  go_wp2_with fail
  refine HE2.out.mono ?_
  rintro e w' ⟨rfl, rfl⟩
  go_wp2_with fail
  refine HEA.out.mono ?_
  rintro e w8 ⟨rfl, hb8⟩
  have H6 := Lib.hid (gsIn HS.out.two (hG5.keep hb8) 0 ⟨by omega, by omega⟩)
  rw [show inG g3 0 = (g3, 2 * (0 + 1)) by unfold inG; rw [if_pos (by rw [HFN5.out]; omega)]] at H6
  clear hG5
  go_wp2_with fail
  refine H6.out.mono ?_
  rintro e w9 ⟨rfl, hG6⟩
  have HB9 := Lib.hid hG6.bel
  have H7 := Lib.hid (gcheck_neg A w9 (HS.out.two.keep HB9.out))
  clear H6 hG6 HE2 HEA hb8
  unfold sentV at H7
  go_wp2_with fail
  refine H7.out.mono ?_
  rintro e w10 ⟨rfl, hb10⟩
  have HB10 := Lib.hid (HB9.out.trans (hb10.mono HB9.out.size))
  have HEB := Lib.hid (isE_any (sentV A 1) 102 w10 (errAs_sent (HS.out.keep HB10.out) 1 (by decide)))
  unfold sentV at HEB
  clear hb10
  go_wp2_with fail
  refine HEB.out.mono ?_
  rintro e w11 ⟨rfl, hb11⟩
  go_wp2_with fail
  go_ret
  exact ⟨rfl, HB10.out.trans (hb11.mono HB10.out.size)⟩
end Go.Proofs.YtnhimicifebgjaaDoor
