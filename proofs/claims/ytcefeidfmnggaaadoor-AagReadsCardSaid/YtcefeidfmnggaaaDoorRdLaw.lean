/- Contract of skolemlaw11.first: it answers true. Conditions: the errors lie as 'Sents' says; the table of powers of ten is as the program lays it. · The walk of skolemlaw11.AagReads: it answers true, where the document's ReadAag is what its contract says. Conditions: the slice reads as bytes; the errors lie as 'Sents' says; the table of powers of ten is as the program lays it. · The law of aag.Read, as it stands. Conditions: the slice reads as bytes; the errors lie as 'Sents' says; the table of powers of ten is as the program lays it. -/
import Derived.Test.YtcefeidfmnggaaaDoorBy0
import Derived.Test.YtcefeidfmnggaaaDoorRda
import Derived.Test.YtcefeidfmnggaaaDoorFault
import Derived.Deep.DeepCutAuto
import Derived.Test.YtcefeidfmnggaaaDoorSmC
import Derived.Test.YtcefeidfmnggaaaDoorRgm
import Derived.Test.YtcefeidfmnggaaaDoorOpenG
import Derived.Deep.CutBlock
import Derived.Test.YtcefeidfmnggaaaDoorRgb
namespace Go.Proofs.YtcefeidfmnggaaaDoor
open Go.RowKit

/-- 'string(b)' of a row of the call's own. -/
theorem conv_own {w : World} {B : Nat} {e : TypeId} {v : Value} {n : Nat} {xs : List Int} (h : w.ownsRow B e 1 v n (xs.map (Value.int .u8))) : (convert 22 9 v).run Tryd.prog w = .ok (.string (strOfNums xs)) w := by
  have hl : xs.length = n := by simpa using h.1
  rcases h.2 with ⟨e0, e1⟩ | ⟨g, cap, cur, hv, hb, hg, hn, hm, hs, ht⟩
  · subst e0; subst e1
    have hx : xs = [] := List.eq_nil_of_length_eq_zero hl
    subst hx
    exact run_convert_bytes_nil w 22 5 Tryd.underlying22 Tryd.underlying5 0 0 9 Tryd.underlying9
  · subst hv
    refine run_convert_bytes_arg w 22 5 Tryd.underlying22 Tryd.underlying5 g 0 n cap xs hl (fun i hi => ?_) 9 Tryd.underlying9
    have := h.cells (g := g) rfl i (.int .u8 (xs.getD i 0)) (by simp [List.getD, show i < xs.length by omega])
    rw [Nat.zero_add]
    rwa [show (⟨g, 0, none⟩ : Addr).add i = ⟨g, i, none⟩ by unfold Addr.add; split <;> simp_all] at this
theorem readA_nil : readR 0 (wordsL false []) = badC (false, 0) := by
  have hw : wordsL false [] = [] := splitL_nil _ _ _ _
  rw [hw]
  rfl
theorem itoaL_0 : itoaL 0 = [48] := by rw [itoaL_pos (by omega)]; exact decL_small (by decide)
theorem text0 : strOfNums (textA 0 [] []) = ⟨#[97, 97, 103, 32, 48, 32, 48, 32, 48, 32, 48, 32, 48, 10]⟩ := by
  have : textA 0 [] [] = [97, 97, 103, 32, 48, 32, 48, 32, 48, 32, 48, 32, 48, 10] := by simp [textA, headT, insT, outsT, gatesT, lineL, bodyL, itoaL_0]
  rw [this]
  rfl

set_option maxHeartbeats 1000000 in
theorem first11_any (A : Nat → Addr) (w : World) (hS : Sents w A) (ht : Tabs w) : Calls Tryd.prog 6 #[] w fun e w' => e = .returned (.bool true) ∧ Below w.heap.size w w' := by
  have HR := Lib.hid (readA_any A (.slice none 0 0) [] w hS (RowG.nil _ _ _) Bts.nil (by simp))
  rw [show (([] : List Int).length : Int) = 0 by rfl, readA_nil] at HR
  have HP := Lib.hid (fun W => placed_any 101 0 W (by omega))
  have HY := Lib.hid (fun ev W (h : ErrAs W ev 101 true 0) => see_yes ev 101 true 0 W h)
  have HSS := Lib.hid (fun W (hW : Below w.heap.size w W) => hS.keep hW)
  have HTB := Lib.hid (fun W (hW : Below w.heap.size w W) => by0_any W (ht.keep hW))
  have HCV := Lib.hid (fun (W : World) (v : Value) (B : Nat) (h : W.ownsRow B 5 1 v (textA 0 [] []).length ((textA 0 [] []).map (Value.int .u8))) => conv_own h)
  rw [text0] at HCV
  unfold ReadP badC at HR
  unfold circV at HTB
  unfold circV at HR
  clear hS ht
  go_enter Tryd.func6, Tryd.ntmps6
  go_wp2_with (first
    | (go_at_call 7; refine HR.out.mono ?_; rintro e w1 ⟨⟨u, v, ov, rfl, hU, hV, hO⟩, hb1⟩; have hs1 := hb1.size; have hE := hO.err (HSS.out _ hb1); obtain ⟨a9, c9, rfl, _⟩ := hU; obtain ⟨a8, c8, rfl, _⟩ := hV)
    | (go_at_call 16; refine (HP.out _).mono ?_; rintro e w2 ⟨rfl, hb2⟩)
    | (go_at_call 10; refine (HY.out _ _ ?_).mono ?_; rotate_left; rintro e w3 ⟨rfl, hb3⟩; have HW3 : Hid (Below w.heap.size w w3) := (by have hq : Below w1.heap.size w1 w2 := ((Below.refl _ w1).alloc (Nat.le_refl _) _).trans (hb2.mono (by simp)); exact hb1.trans ((hq.trans (hb3.mono hq.size)).mono hs1)))
    | (go_at_call 12; refine (HTB.out _ HW3.out).mono ?_; rintro e w4 ⟨v4, rfl, hown4, hb4⟩; have kc := HCV.out _ _ _ hown4; have HB4 := Lib.hid hb4; obtain ⟨a4, c4, rfl, _, _⟩ := own_shape hown4; clear hown4 hb4))
  · go_ret
    exact ⟨rfl, HW3.out.trans (HB4.out.mono HW3.out.size)⟩
  · exact hE.keep (((Below.refl _ w1).alloc (Nat.le_refl _) _).trans (hb2.mono (by simp)))
end Go.Proofs.YtcefeidfmnggaaaDoor

namespace Go.Proofs.YtcefeidfmnggaaaDoor
open Go.RowKit

theorem cells3 (w W : World) (x y z : Value) (T : TypeId) (h : Below (w.alloc (.cells #[x, y, z] T)).heap.size (w.alloc (.cells #[x, y, z] T)) W) : W.cell? ⟨w.heap.size, 0, none⟩ = some x ∧ W.cell? ⟨w.heap.size, 1, none⟩ = some y ∧ W.cell? ⟨w.heap.size, 2, none⟩ = some z := by
  obtain ⟨hc, _⟩ := bcell h
  exact ⟨by rw [hc _ _ (by simp), World.cell?_alloc_at _ _ _ _ (by simp)]; rfl, by rw [hc _ _ (by simp), World.cell?_alloc_at _ _ _ _ (by simp)]; rfl, by rw [hc _ _ (by simp), World.cell?_alloc_at _ _ _ _ (by simp)]; rfl⟩
theorem sameCir_yes (n : Int) (u v u' v' : Value) (ps : List (Int × Int)) (os : List Int) (w : World) (h1 : PRow w u ps) (h2 : Row w v os) (h3 : PRow w u' ps) (h4 : Row w v' os) :
    Calls Tryd.prog 9 #[circV n u v, circV n u' v'] w fun e w' => e = .returned (.bool true) ∧ Below w.heap.size w w' := by
  have := sameCir_any n n u v u' v' ps ps os os w h1 h2 h3 h4
  simpa using this

set_option maxHeartbeats 4000000 in
theorem reads_in (A : Nat → Addr) (a : Option Addr) (c : Nat) (xs : List Int) (w : World) (hS : Sents w A) (ht : Tabs w) (hv : RowGAt (Value.int .u8) 0 w a c xs) (hb : Bts xs) (hn : xs.length ≤ 400)
    (hR : ∀ W, Below w.heap.size w W → Calls Tryd.prog 8 #[.slice a xs.length c] W (RefP W (readR xs.length (wordsL false xs)))) :
    Calls Tryd.prog 3 #[.slice a xs.length c] w fun e w' => e = .returned (.bool true) ∧ Below w.heap.size w w' := by
  have hV : RowG (Value.int .u8) 0 w (.slice a xs.length c) xs := ⟨a, c, rfl, hv⟩
  have HF := Lib.hid (first11_any A w hS ht)
  have HRD := Lib.hid (fun W (hW : Below w.heap.size w W) => readA_any A _ xs W (hS.keep hW) (hV.keep hW) hb (by omega))
  have HRR := Lib.hid hR
  have HSN := Lib.hid (fun W (hW : Below w.heap.size w W) => hS.keep hW)
  have HY := Lib.hid (fun ev c p k W (h : ErrAs W ev c p k) => see_yes ev c p k W h)
  unfold ReadP at HRD
  unfold RefP at HRR
  clear hS hv hV hb hR ht
  generalize readR xs.length (wordsL false xs) = R at *
  obtain ⟨⟨n, ps, os⟩, f⟩ := R
  have HO := Lib.hid (fun (W : World) B ev (h : OutF A B W ev f) (hS : Sents W A) => h.err hS)
  have HSC := Lib.hid (fun u v u' v' w h1 h2 h3 h4 => sameCir_yes n u v u' v' ps os w h1 h2 h3 h4)
  unfold circV at HRD HRR HSC
  unfold faultV at HY HRR
  simp only at HRD HRR
  generalize fcode f = fc at *
  generalize f.isSome = fp at *
  generalize fpos f = fk at *
  generalize xs.length = m at *
  have hm4 : (m : Int) ≤ 400 := by omega
  go_enter Tryd.func3, Tryd.ntmps3
  go_wp2_with (first
    | (go_at_call 6; refine HF.out.mono ?_; rintro e w1 ⟨rfl, hb1⟩)
    | (go_at_call 7; refine (HRD.out _ hb1).mono ?_; rintro e w2 ⟨⟨u, v, ev, rfl, hU, hVv, hO⟩, hb2⟩; have HW2 := hb1.trans (hb2.mono hb1.size); have hs2 := HW2.size; have HE1 := Lib.hid (HO.out _ _ _ hO (HSN.out _ HW2)); obtain ⟨a9, c9, rfl, hU9⟩ := hU; obtain ⟨a8, c8, rfl, hV8⟩ := hVv; have HU := Lib.hid (show PRow w2 (.slice a9 ps.length c9) ps from ⟨_, _, rfl, hU9⟩); have HV := Lib.hid (show Row w2 (.slice a8 os.length c8) os from ⟨_, _, rfl, hV8⟩); clear hU9 hV8 hO)
    | (go_at_call 8; refine (HRR.out _ (HW2.alloc hs2 _)).mono ?_; rintro e w3 ⟨⟨u', v', rfl, hU', hV'⟩, hb3⟩; have HW3 := (HW2.alloc hs2 _).trans (hb3.mono (by simp; omega)); have hs3 := HW3.size; obtain ⟨a7, c7, rfl, hU7⟩ := hU'; obtain ⟨a6, c6, rfl, hV6⟩ := hV'; have HU2 := Lib.hid (show PRow w3 (.slice a7 ps.length c7) ps from ⟨_, _, rfl, hU7⟩); have HV2 := Lib.hid (show Row w3 (.slice a6 os.length c6) os from ⟨_, _, rfl, hV6⟩); have hs23 := hb3.size; simp at hs23
       have hq3 : Below w3.heap.size w3 ((w3.alloc (.cells #[.int .i64 n, .slice a7 ps.length c7, .slice a6 os.length c6] 27)).alloc (.cells #[.int .i64 fc, .bool fp, .int .i64 fk] 33)) := ((Below.refl _ w3).alloc (Nat.le_refl _) _).alloc (by simp) _
       have HQ3 := Lib.hid hq3
       have hq2 : Below w2.heap.size w2 ((w3.alloc (.cells #[.int .i64 n, .slice a7 ps.length c7, .slice a6 os.length c6] 27)).alloc (.cells #[.int .i64 fc, .bool fp, .int .i64 fk] 33)) := ((Below.refl _ w2).alloc (Nat.le_refl _) _).trans ((hb3.mono (by simp)).trans (hq3.mono (by omega)))
       have HQ2 := Lib.hid hq2
       obtain ⟨p0, p1, p2⟩ := cells3 w2 _ _ _ _ _ (hb3.trans (hq3.mono (by simp; omega)))
       obtain ⟨r0, r1, r2⟩ := cells3 w3 ((w3.alloc (.cells #[.int .i64 n, .slice a7 ps.length c7, .slice a6 os.length c6] 27)).alloc (.cells #[.int .i64 fc, .bool fp, .int .i64 fk] 33)) _ _ _ _ ((Below.refl _ _).alloc (Nat.le_refl _) _)
       clear hU7 hV6 hq3 hq2)
    | (go_at_call 9; refine (HSC.out _ _ _ _ _ (HU.out.keep HQ2.out) (HV.out.keep HQ2.out) (HU2.out.keep HQ3.out) (HV2.out.keep HQ3.out)).mono ?_; rintro e w4 ⟨rfl, hb4⟩; have HB4 := Lib.hid hb4; obtain ⟨s0, s1, s2⟩ := cells3 (w3.alloc (.cells #[.int .i64 n, .slice a7 ps.length c7, .slice a6 os.length c6] 27)) w4 _ _ _ _ hb4; simp at s0 s1 s2; have HE4 := Lib.hid (HE1.out.keep (HQ2.out.trans (hb4.mono HQ2.out.size))))
    | (go_at_call 10; refine (HY.out _ _ _ _ _ HE4.out).mono ?_; rintro e w5 ⟨rfl, hb5⟩))
  go_ret
  have h45 := HB4.out.trans (hb5.mono HB4.out.size)
  exact ⟨rfl, HW3.trans ((HQ3.out.trans (h45.mono HQ3.out.size)).mono hs3)⟩

set_option maxHeartbeats 4000000 in
theorem lawRd (A : Nat → Addr) (a : Option Addr) (c : Nat) (xs : List Int) (w : World) (hS : Sents w A) (ht : Tabs w) (hv : RowGAt (Value.int .u8) 0 w a c xs) (hb : Bts xs)
    (hR : ∀ W, xs.length ≤ 400 → Below w.heap.size w W → Calls Tryd.prog 8 #[.slice a xs.length c] W (RefP W (readR xs.length (wordsL false xs)))) :
    Calls Tryd.prog 3 #[.slice a xs.length c] w fun e w' => e = .returned (.bool true) ∧ Below w.heap.size w w' := by
  by_cases hn : xs.length ≤ 400
  · exact reads_in A a c xs w hS ht hv hb hn (fun W hW => hR W hn hW)
  · have HF := Lib.hid (first11_any A w hS ht)
    have hm := hv.2.1
    unfold maxLen at hm
    have hc := hv.1
    clear hS hv hb hR ht
    generalize xs.length = m at *
    have hm4 : (400 : Int) < (m : Int) := by omega
    go_enter Tryd.func3, Tryd.ntmps3
    go_wp2_with (go_at_call 6; refine HF.out.mono ?_; rintro e w1 ⟨rfl, hb1⟩)
    go_ret
    exact ⟨rfl, hb1⟩
end Go.Proofs.YtcefeidfmnggaaaDoor

namespace Go.Proofs.YtcefeidfmnggaaaDoor
open Go.RowKit

theorem refA_any (v : Value) (xs : List Int) (w : World) (hv : RowG (Value.int .u8) 0 w v xs) (hb : Bts xs) (hn : xs.length ≤ 4000) :
    Calls Tryd.prog 8 #[v] w (RefP w (readR xs.length (wordsL false xs))) := by
  by_cases h : 0 < (wordsL false xs).length ∧ fst (wordsL false xs) 0 = true ∧ txt (wordsL false xs) 0 = [97, 97, 103]
  · exact refA_main v xs w hv hb hn h
  · exact refA_first v xs w hv hb hn h
theorem lawRd_all (A : Nat → Addr) (a : Option Addr) (c : Nat) (xs : List Int) (w : World) (hS : Sents w A) (ht : Tabs w) (hv : RowGAt (Value.int .u8) 0 w a c xs) (hb : Bts xs) :
    Calls Tryd.prog 3 #[.slice a xs.length c] w fun e w' => e = .returned (.bool true) ∧ Below w.heap.size w w' :=
  lawRd A a c xs w hS ht hv hb (fun W hn hW => refA_any _ xs W (RowG.keep ⟨a, c, rfl, hv⟩ hW) hb (by omega))
end Go.Proofs.YtcefeidfmnggaaaDoor
