/- Contract of skolemlaw11.first: it answers true. Conditions: the errors lie as 'Sents' says; the table of powers of ten is as the program lays it. -/
import Derived.Test.YtfkodpglgeghlaaDoorBy0
import Derived.Test.YtfkodpglgeghlaaDoorRda
import Derived.Test.YtfkodpglgeghlaaDoorFault
import Derived.Deep.DeepCutAuto
namespace Go.Proofs.YtfkodpglgeghlaaDoor
open Go.RowKit

/-- 'string(b)' of a row of the call's own. -/
theorem conv_own {w : World} {B : Nat} {e : TypeId} {v : Value} {n : Nat} {xs : List Int} (h : w.ownsRow B e 1 v n (xs.map (Value.int .u8))) : (convert 23 9 v).run Tryd.prog w = .ok (.string (strOfNums xs)) w := by
  have hl : xs.length = n := by simpa using h.1
  rcases h.2 with ⟨e0, e1⟩ | ⟨g, cap, cur, hv, hb, hg, hn, hm, hs, ht⟩
  · subst e0; subst e1
    have hx : xs = [] := List.eq_nil_of_length_eq_zero hl
    subst hx
    exact run_convert_bytes_nil w 23 5 Tryd.underlying23 Tryd.underlying5 0 0 9 Tryd.underlying9
  · subst hv
    refine run_convert_bytes_arg w 23 5 Tryd.underlying23 Tryd.underlying5 g 0 n cap xs hl (fun i hi => ?_) 9 Tryd.underlying9
    have := h.cells (g := g) rfl i (.int .u8 (xs.getD i 0)) (by simp [List.getD, show i < xs.length by omega])
    rw [Nat.zero_add]
    rwa [show (⟨g, 0, none⟩ : Addr).add i = ⟨g, i, none⟩ by unfold Addr.add; split <;> simp_all] at this
theorem readA_nil : readR 0 (wordsL false []) = badC (false, 0) := by
  have hw : wordsL false [] = [] := splitL_nil _ _ _ _
  rw [hw]
  rfl
theorem itoaL_0 : itoaL 0 = [48] := by rw [itoaL_pos (by omega)]; exact decL_small (by decide)
theorem text0 : strOfNums (textA 0 [] []) = ⟨#[97, 97, 103, 32, 48, 32, 48, 32, 48, 32, 48, 32, 48, 10]⟩ := by
  have : textA 0 [] [] = [97, 97, 103, 32, 48, 32, 48, 32, 48, 32, 48, 32, 48, 10] := by simp [textA, headT, insT, outsT, gatesT, lineL, bodyL, itoaL_0]
  rw [this]
  rfl

set_option maxHeartbeats 1000000 in
theorem first11_any (A : Nat → Addr) (w : World) (hS : Sents w A) (ht : Tabs w) : Calls Tryd.prog 23 #[] w fun e w' => e = .returned (.bool true) ∧ Below w.heap.size w w' := by
  have HR := Lib.hid (readA_any A (.slice none 0 0) [] w hS (RowG.nil _ _ _) Bts.nil (by simp))
  rw [show (([] : List Int).length : Int) = 0 by rfl, readA_nil] at HR
  have HP := Lib.hid (fun W => placed_any 101 0 W (by omega))
  have HY := Lib.hid (fun ev W (h : ErrAs W ev 101 true 0) => see_yes ev 101 true 0 W h)
  have HSS := Lib.hid (fun W (hW : Below w.heap.size w W) => hS.keep hW)
  have HTB := Lib.hid (fun W (hW : Below w.heap.size w W) => by0_any W (ht.keep hW))
  have HCV := Lib.hid (fun (W : World) (v : Value) (B : Nat) (h : W.ownsRow B 5 1 v (textA 0 [] []).length ((textA 0 [] []).map (Value.int .u8))) => conv_own h)
  rw [text0] at HCV
  unfold ReadP badC at HR
  unfold circV at HTB
  unfold circV at HR
  clear hS ht
  go_enter Tryd.func23, Tryd.ntmps23
  go_wp2_with (first
    | (go_at_call 21; refine HR.out.mono ?_; rintro e w1 ⟨⟨u, v, ov, rfl, hU, hV, hO⟩, hb1⟩; have hs1 := hb1.size; have hE := hO.err (HSS.out _ hb1); obtain ⟨a9, c9, rfl, _⟩ := hU; obtain ⟨a8, c8, rfl, _⟩ := hV)
    | (go_at_call 18; refine (HP.out _).mono ?_; rintro e w2 ⟨rfl, hb2⟩)
    | (go_at_call 17; refine (HY.out _ _ ?_).mono ?_; rotate_left; rintro e w3 ⟨rfl, hb3⟩; have HW3 : Hid (Below w.heap.size w w3) := (by have hq : Below w1.heap.size w1 w2 := ((Below.refl _ w1).alloc (Nat.le_refl _) _).trans (hb2.mono (by simp)); exact hb1.trans ((hq.trans (hb3.mono hq.size)).mono hs1)))
    | (go_at_call 22; refine (HTB.out _ HW3.out).mono ?_; rintro e w4 ⟨v4, rfl, hown4, hb4⟩; have kc := HCV.out _ _ _ hown4; have HB4 := Lib.hid hb4; obtain ⟨a4, c4, rfl, _, _⟩ := own_shape hown4; clear hown4 hb4))
  · go_ret
    exact ⟨rfl, HW3.out.trans (HB4.out.mono HW3.out.size)⟩
  · exact hE.keep (((Below.refl _ w1).alloc (Nat.le_refl _) _).trans (hb2.mono (by simp)))
end Go.Proofs.YtfkodpglgeghlaaDoor
