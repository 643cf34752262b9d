/- Contracts of gate's Or, Xor, Mux: what 'orG', 'xorG', 'muxG' say. Conditions: the graph lies in memory ('GOp'); the literals are small. -/
import Derived.Test.YtbighmmjmklioaaDoorGoi
namespace Go.Proofs.YtbighmmjmklioaaDoor
open Go.RowKit

section
variable {G : World → List Nat → Gr → Prop} {E : World → List Nat → Prop} {p : Nat} {S : List Nat} {g : Gr}

set_option maxRecDepth 8000 in
set_option maxHeartbeats 2000000 in
theorem gor_any (H : GOp G E (.pointer (some ⟨p, 0, none⟩)) 35 64) {w W : World} (hE : E w S) (hG : GIn G w S g W) (a b : Int) (ha0 : 0 ≤ a) (ha : a ≤ 20000) (hb0 : 0 ≤ b) (hb : b ≤ 20000) :
    Calls Tryd.prog 13 #[.pointer (some ⟨p, 0, none⟩), .int .i64 a, .int .i64 b] W fun e w' => e = .returned (.int .i64 (orG g a b).2) ∧ GIn G w S (orG g a b).1 w' := by
  have hlen := hG.len H
  have na := notI_of a ha0
  have nb := notI_of b hb0
  have bd := andG_bd hlen (notI a) (notI b)
  have HNA := Lib.hid (fun W => gnot_any a W ha0 (by omega))
  have HNB := Lib.hid (fun W => gnot_any b W hb0 (by omega))
  have H1 := Lib.hid (H.gand hE hG (notI a) (notI b) (in64_of (by omega) (by omega)) (in64_of (by omega) (by omega)))
  have HR := Lib.hid (show orG g a b = ((andG g (notI a) (notI b)).1, notI (andG g (notI a) (notI b)).2) from rfl)
  generalize orG g a b = R at *
  generalize andG g (notI a) (notI b) = r at *
  have HNR := Lib.hid (fun W => gnot_any r.2 W bd.1 (by omega))
  generalize notI a = za at *
  generalize notI b = zb at *
  clear na nb bd hlen hG
  go_enter Tryd.func13, Tryd.ntmps13
  go_wp2_with fail
  refine (HNA.out _).mono ?_
  rintro e w' ⟨rfl, rfl⟩
  go_wp2_with fail
  refine (HNB.out _).mono ?_
  rintro e w' ⟨rfl, rfl⟩
  go_wp2_with fail
  refine H1.out.mono ?_
  rintro e w1 ⟨rfl, hG1⟩
  have HG1 := Lib.hid hG1
  clear hG1
  go_wp2_with fail
  refine (HNR.out _).mono ?_
  rintro e w' ⟨rfl, rfl⟩
  go_wp2_with fail
  go_ret
  rw [HR.out]
  exact ⟨rfl, HG1.out⟩

set_option maxRecDepth 8000 in
set_option maxHeartbeats 2000000 in
theorem gxor_any (H : GOp G E (.pointer (some ⟨p, 0, none⟩)) 35 64) {w W : World} (hE : E w S) (hG : GIn G w S g W) (a b : Int) (ha0 : 0 ≤ a) (ha : a ≤ 20000) (hb0 : 0 ≤ b) (hb : b ≤ 20000) :
    Calls Tryd.prog 15 #[.pointer (some ⟨p, 0, none⟩), .int .i64 a, .int .i64 b] W fun e w' => e = .returned (.int .i64 (xorG g a b).2) ∧ GIn G w S (xorG g a b).1 w' := by
  have hlen := hG.len H
  have na := notI_of a ha0
  have nb := notI_of b hb0
  have b1 := andG_bd hlen a b
  have HA := Lib.hid (fun W g' (h : GIn G w S g' W) a b ha hb => H.gand hE h a b ha hb)
  have HNA := Lib.hid (fun W => gnot_any a W ha0 (by omega))
  have HNB := Lib.hid (fun W => gnot_any b W hb0 (by omega))
  have HR := Lib.hid (show xorG g a b = andG (andG (andG g a b).1 (notI a) (notI b)).1 (notI (andG g a b).2) (notI (andG (andG g a b).1 (notI a) (notI b)).2) from rfl)
  generalize xorG g a b = R at *
  have H1 := Lib.hid (HA.out _ _ hG a b (in64_of (by omega) (by omega)) (in64_of (by omega) (by omega)))
  generalize andG g a b = x at *
  have b2 := andG_bd b1.2.2 (notI a) (notI b)
  have nx := notI_of x.2 b1.1
  have HNX := Lib.hid (fun W => gnot_any x.2 W b1.1 (by omega))
  have I2 := Lib.hid (And.intro (in64_of na.1 (by omega)) (in64_of nb.1 (by omega)))
  generalize notI a = za at *
  generalize notI b = zb at *
  have H2 := Lib.hid (fun W h => HA.out W x.1 h za zb I2.out.1 I2.out.2)
  generalize andG x.1 za zb = y at *
  have ny := notI_of y.2 b2.1
  have HNY := Lib.hid (fun W => gnot_any y.2 W b2.1 (by omega))
  have I3 := Lib.hid (And.intro (in64_of nx.1 (by omega)) (in64_of ny.1 (by omega)))
  generalize notI x.2 = zx at *
  generalize notI y.2 = zy at *
  have H3 := Lib.hid (fun W h => HA.out W y.1 h zx zy I3.out.1 I3.out.2)
  rw [← HR.out] at H3
  clear na nb b1 b2 nx ny hlen hG HA I2 I3 HR
  go_enter Tryd.func15, Tryd.ntmps15
  go_wp2_with fail
  refine H1.out.mono ?_
  rintro e w1 ⟨rfl, hG1⟩
  have HG1 := Lib.hid hG1
  clear hG1
  go_wp2_with fail
  refine (HNA.out _).mono ?_
  rintro e w' ⟨rfl, rfl⟩
  go_wp2_with fail
  refine (HNB.out _).mono ?_
  rintro e w' ⟨rfl, rfl⟩
  go_wp2_with fail
  refine (H2.out _ HG1.out).mono ?_
  rintro e w2 ⟨rfl, hG2⟩
  have HG2 := Lib.hid hG2
  clear hG2
  go_wp2_with fail
  refine (HNX.out _).mono ?_
  rintro e w' ⟨rfl, rfl⟩
  go_wp2_with fail
  refine (HNY.out _).mono ?_
  rintro e w' ⟨rfl, rfl⟩
  go_wp2_with fail
  refine (H3.out _ HG2.out).mono ?_
  rintro e w3 ⟨rfl, hG3⟩
  have HG3 := Lib.hid hG3
  clear hG3
  go_wp2_with fail
  go_ret
  exact ⟨rfl, HG3.out⟩

set_option maxRecDepth 8000 in
set_option maxHeartbeats 2000000 in
theorem gmux_any (H : GOp G E (.pointer (some ⟨p, 0, none⟩)) 35 64) {w W : World} (hE : E w S) (hG : GIn G w S g W) (c a b : Int) (hc0 : 0 ≤ c) (hc : c ≤ 20000) (ha0 : 0 ≤ a) (ha : a ≤ 20000) (hb0 : 0 ≤ b) (hb : b ≤ 20000) :
    Calls Tryd.prog 17 #[.pointer (some ⟨p, 0, none⟩), .int .i64 c, .int .i64 a, .int .i64 b] W fun e w' => e = .returned (.int .i64 (muxG g c a b).2) ∧ GIn G w S (muxG g c a b).1 w' := by
  have hlen := hG.len H
  have nc := notI_of c hc0
  have b1 := andG_bd hlen c a
  have HA := Lib.hid (fun W g' (h : GIn G w S g' W) a b ha hb => H.gand hE h a b ha hb)
  have HO := Lib.hid (fun W g' (h : GIn G w S g' W) a b h1 h2 h3 h4 => gor_any H hE h a b h1 h2 h3 h4)
  have HNC := Lib.hid (fun W => gnot_any c W hc0 (by omega))
  have HR := Lib.hid (show muxG g c a b = orG (andG (andG g c a).1 (notI c) b).1 (andG g c a).2 (andG (andG g c a).1 (notI c) b).2 from rfl)
  generalize muxG g c a b = R at *
  have H1 := Lib.hid (HA.out _ _ hG c a (in64_of (by omega) (by omega)) (in64_of (by omega) (by omega)))
  generalize andG g c a = x at *
  have b2 := andG_bd b1.2.2 (notI c) b
  have I2 := Lib.hid (And.intro (in64_of nc.1 (by omega)) (in64_of hb0 (by omega)))
  generalize notI c = zc at *
  have H2 := Lib.hid (fun W h => HA.out W x.1 h zc b I2.out.1 I2.out.2)
  generalize andG x.1 zc b = y at *
  have H3 := Lib.hid (fun W h => HO.out W y.1 h x.2 y.2 b1.1 (by omega) b2.1 (by omega))
  rw [← HR.out] at H3
  clear nc b1 b2 hlen hG HA HO I2 HR
  go_enter Tryd.func17, Tryd.ntmps17
  go_wp2_with fail
  refine H1.out.mono ?_
  rintro e w1 ⟨rfl, hG1⟩
  have HG1 := Lib.hid hG1
  clear hG1
  go_wp2_with fail
  refine (HNC.out _).mono ?_
  rintro e w' ⟨rfl, rfl⟩
  go_wp2_with fail
  refine (H2.out _ HG1.out).mono ?_
  rintro e w2 ⟨rfl, hG2⟩
  have HG2 := Lib.hid hG2
  clear hG2
  go_wp2_with fail
  refine (H3.out _ HG2.out).mono ?_
  rintro e w3 ⟨rfl, hG3⟩
  have HG3 := Lib.hid hG3
  clear hG3
  go_wp2_with fail
  go_ret
  exact ⟨rfl, HG3.out⟩
end
end Go.Proofs.YtbighmmjmklioaaDoor
