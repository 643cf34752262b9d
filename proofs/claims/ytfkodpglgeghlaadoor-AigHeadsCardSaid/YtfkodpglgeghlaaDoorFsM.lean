/- Contract of aag.Bytes at the circuit of nothing. Conditions: the table of powers of ten is as the program lays it. · Contract of skolemlaw11.first: it answers true. Conditions: the errors lie as 'Sents' says; the table of powers of ten is as the program lays it. -/
import Derived.Test.YtfkodpglgeghlaaDoorLin
import Derived.Test.YtfkodpglgeghlaaDoorPrA
import Derived.Lib.SlBytesConst
import Derived.Test.YtfkodpglgeghlaaDoorRdZ
import Derived.Test.YtfkodpglgeghlaaDoorFault
import Derived.Deep.DeepCutAuto
namespace Go.Proofs.YtfkodpglgeghlaaDoor
open Go.RowKit

set_option maxRecDepth 8000 in
set_option maxHeartbeats 4000000 in
theorem by0_any (w : World) (ht : Tabs w) :
    Calls Tryd.prog 22 #[circV 0 (.slice none 0 0) (.slice none 0 0)] w fun e w' => ∃ v, e = .returned v ∧ w'.ownsRow w.heap.size 5 1 v (textA 0 [] []).length ((textA 0 [] []).map (Value.int .u8)) ∧ Below w.heap.size w w' := by
  have hw0s : (w.alloc (.cells #[.int .i64 0, .slice none 0 0, .slice none 0 0] 27)).heap.size = w.heap.size + 1 := by simp
  have kc := Lib.run_convert_bytes_const (P := Tryd.prog) (w.alloc (.cells #[.int .i64 0, .slice none 0 0, .slice none 0 0] 27)) 23 5 #[.int .u8 97, .int .u8 97, .int .u8 103, .int .u8 32] 4 4 Tryd.underlying23 Tryd.underlying5
  rw [hw0s] at kc
  have HTB := Lib.hid (fun W (hb : Below w.heap.size w W) => ht.at (w.heap.size + 1) hb (by omega))
  clear ht
  have HL : Hid (∀ W, Ints W (w.heap.size + 2) [0, 0, 0, 0, 0] → (∀ j u, (([97, 97, 103, 32] : List Int).map (Value.int .u8))[j]? = some u → W.cell? ⟨w.heap.size + 1, j, none⟩ = some u) → Below w.heap.size w W → w.heap.size + 3 ≤ W.heap.size →
      Calls Tryd.prog 41 #[.slice (some ⟨w.heap.size + 1, 0, none⟩) 4 4, .slice (some ⟨w.heap.size + 2, 0, none⟩) 5 5] W fun e w' => ∃ v', e = .returned v' ∧ w'.ownsRow (w.heap.size + 1) 5 1 v' (textA 0 [] []).length ((textA 0 [] []).map (Value.int .u8)) ∧ Below (w.heap.size + 1) W w') := fun W hi hc hb hsz => by
    rw [show textA 0 [] [] = [97, 97, 103, 32] ++ lineL [0, 0, 0, 0, 0] by simp [textA, headT, insT, outsT, gatesT]]
    have h := appLine_any (w.heap.size + 1) (.slice (some ⟨w.heap.size + 1, 0, none⟩) 4 4) [97, 97, 103, 32] 0 [0, 0, 0, 0] (w.heap.size + 2) W hi (by omega)
      (appFirst_ints (w.heap.size + 1) (w.heap.size + 1) 4 0 (by omega) [97, 97, 103, 32] rfl (by omega) W (by omega) hc (by have := hi.lt; omega) (HTB.out W hb).here (w.heap.size + 2) _ hi)
      (by intro n hn; simp at hn; subst hn; omega) (by simp) (by have := lineL_len [0, 0, 0, 0, 0] (by intro n hn; simp at hn; subst hn; omega); simp only [List.length_append, List.length_cons, List.length_nil] at *; omega) (fun W' hW' => HTB.out W' (hb.trans (hW'.mono (by omega))))
    exact h
  have HCI : Hid (Ints (((w.alloc (.cells #[.int .i64 0, .slice none 0 0, .slice none 0 0] 27)).alloc (.cells #[.int .u8 97, .int .u8 97, .int .u8 103, .int .u8 32] 5 (4, 5))).alloc (.cells #[.int .i64 0, .int .i64 0, .int .i64 0, .int .i64 0, .int .i64 0] 3)) (w.heap.size + 2) [0, 0, 0, 0, 0]) := by
    unfold Hid Ints
    have := heap_alloc_new ((w.alloc (.cells #[.int .i64 0, .slice none 0 0, .slice none 0 0] 27)).alloc (.cells #[.int .u8 97, .int .u8 97, .int .u8 103, .int .u8 32] 5 (4, 5))) (.cells #[.int .i64 0, .int .i64 0, .int .i64 0, .int .i64 0, .int .i64 0] 3)
    rw [show ((w.alloc (.cells #[.int .i64 0, .slice none 0 0, .slice none 0 0] 27)).alloc (.cells #[.int .u8 97, .int .u8 97, .int .u8 103, .int .u8 32] 5 (4, 5))).heap.size = w.heap.size + 2 by simp] at this
    exact this
  have HB0 : Hid (Below w.heap.size w (((w.alloc (.cells #[.int .i64 0, .slice none 0 0, .slice none 0 0] 27)).alloc (.cells #[.int .u8 97, .int .u8 97, .int .u8 103, .int .u8 32] 5 (4, 5))).alloc (.cells #[.int .i64 0, .int .i64 0, .int .i64 0, .int .i64 0, .int .i64 0] 3))) := (((Below.refl _ w).alloc (Nat.le_refl _) _).alloc (by simp) _).alloc (by simp; omega) _
  have HBQ : Hid (Below (w.heap.size + 1) (w.alloc (.cells #[.int .i64 0, .slice none 0 0, .slice none 0 0] 27)) (((w.alloc (.cells #[.int .i64 0, .slice none 0 0, .slice none 0 0] 27)).alloc (.cells #[.int .u8 97, .int .u8 97, .int .u8 103, .int .u8 32] 5 (4, 5))).alloc (.cells #[.int .i64 0, .int .i64 0, .int .i64 0, .int .i64 0, .int .i64 0] 3))) := ((Below.refl _ _).alloc (by simp) _).alloc (by simp) _
  have HCELL : Hid (∀ j u, (([97, 97, 103, 32] : List Int).map (Value.int .u8))[j]? = some u → (((w.alloc (.cells #[.int .i64 0, .slice none 0 0, .slice none 0 0] 27)).alloc (.cells #[.int .u8 97, .int .u8 97, .int .u8 103, .int .u8 32] 5 (4, 5))).alloc (.cells #[.int .i64 0, .int .i64 0, .int .i64 0, .int .i64 0, .int .i64 0] 3)).cell? ⟨w.heap.size + 1, j, none⟩ = some u) := fun j u hj => by
    have hb := (Below.refl ((w.alloc (.cells #[.int .i64 0, .slice none 0 0, .slice none 0 0] 27)).alloc (.cells #[.int .u8 97, .int .u8 97, .int .u8 103, .int .u8 32] 5 (4, 5))).heap.size ((w.alloc (.cells #[.int .i64 0, .slice none 0 0, .slice none 0 0] 27)).alloc (.cells #[.int .u8 97, .int .u8 97, .int .u8 103, .int .u8 32] 5 (4, 5)))).alloc (Nat.le_refl _) (.cells #[.int .i64 0, .int .i64 0, .int .i64 0, .int .i64 0, .int .i64 0] 3)
    rw [hb.cell (p := ⟨w.heap.size + 1, j, none⟩) (by simp), ← hw0s, World.cell?_alloc_mark]
    simpa using hj
  have HBOX : Hid (∀ W, Below (w.heap.size + 1) (w.alloc (.cells #[.int .i64 0, .slice none 0 0, .slice none 0 0] 27)) W → W.cell? ⟨w.heap.size, 0, none⟩ = some (.int .i64 0) ∧ W.cell? ⟨w.heap.size, 1, none⟩ = some (.slice none 0 0) ∧ W.cell? ⟨w.heap.size, 2, none⟩ = some (.slice none 0 0)) := fun W hW => by
    rw [← hw0s] at hW
    obtain ⟨hc, _⟩ := bcell hW
    exact ⟨by rw [hc _ _ (by simp), World.cell?_alloc_at _ _ _ _ (by simp)]; rfl, by rw [hc _ _ (by simp), World.cell?_alloc_at _ _ _ _ (by simp)]; rfl, by rw [hc _ _ (by simp), World.cell?_alloc_at _ _ _ _ (by simp)]; rfl⟩
  clear hw0s
  unfold circV
  go_enter Tryd.func22, Tryd.ntmps22
  go_wp2_with (go_at_call 41; refine (HL.out _ HCI.out HCELL.out HB0.out (by simp)).mono ?_; rintro e1 w1 ⟨v1, rfl, hown1, hb1⟩)
  have HO1 := Lib.hid (own_base hown1 (show w.heap.size ≤ w.heap.size + 1 by omega))
  have HB1 := Lib.hid (HB0.out.trans (hb1.mono (by omega)))
  obtain ⟨g0, g1, g2⟩ := HBOX.out w1 (HBQ.out.trans hb1)
  have hq1 : w.heap.size < w1.heap.size := by have := hb1.size; simp at this; omega
  clear hown1 hb1 HL HCI HB0 HBQ HCELL HTB kc
  go_loopw [4, 32] (fun b i wr => v1 = b ∧ i = .int .i64 0 ∧ w1 = wr) (fun _ _ _ => 0)
  case atStart => exact ⟨rfl, rfl, rfl⟩
  case round =>
    obtain ⟨rfl, rfl, rfl⟩ := hrel
    go_wp2_with fail
    go_loopw [4, 45] (fun b i wr => v1 = b ∧ i = .int .i64 0 ∧ w1 = wr) (fun _ _ _ => 0)
    case atStart => exact ⟨rfl, rfl, rfl⟩
    case round =>
      obtain ⟨rfl, rfl, rfl⟩ := hrel
      go_wp2_with fail
      go_loopw [4, 57] (fun b i wr => v1 = b ∧ i = .int .i64 0 ∧ w1 = wr) (fun _ _ _ => 0)
      case atStart => exact ⟨rfl, rfl, rfl⟩
      case round =>
        obtain ⟨rfl, rfl, rfl⟩ := hrel
        go_wp2_with fail
        go_ret
        exact ⟨_, rfl, HO1.out, HB1.out⟩
end Go.Proofs.YtfkodpglgeghlaaDoor

namespace Go.Proofs.YtfkodpglgeghlaaDoor
open Go.RowKit

/-- 'string(b)' of a row of the call's own. -/
theorem conv_own {w : World} {B : Nat} {e : TypeId} {v : Value} {n : Nat} {xs : List Int} (h : w.ownsRow B e 1 v n (xs.map (Value.int .u8))) : (convert 23 9 v).run Tryd.prog w = .ok (.string (strOfNums xs)) w := by
  have hl : xs.length = n := by simpa using h.1
  rcases h.2 with ⟨e0, e1⟩ | ⟨g, cap, cur, hv, hb, hg, hn, hm, hs, ht⟩
  · subst e0; subst e1
    have hx : xs = [] := List.eq_nil_of_length_eq_zero hl
    subst hx
    exact run_convert_bytes_nil w 23 5 Tryd.underlying23 Tryd.underlying5 0 0 9 Tryd.underlying9
  · subst hv
    refine run_convert_bytes_arg w 23 5 Tryd.underlying23 Tryd.underlying5 g 0 n cap xs hl (fun i hi => ?_) 9 Tryd.underlying9
    have := h.cells (g := g) rfl i (.int .u8 (xs.getD i 0)) (by simp [List.getD, show i < xs.length by omega])
    rw [Nat.zero_add]
    rwa [show (⟨g, 0, none⟩ : Addr).add i = ⟨g, i, none⟩ by unfold Addr.add; split <;> simp_all] at this
theorem readA_nil : readR 0 (wordsL false []) = badC (false, 0) := by
  have hw : wordsL false [] = [] := splitL_nil _ _ _ _
  rw [hw]
  rfl
theorem itoaL_0 : itoaL 0 = [48] := by rw [itoaL_pos (by omega)]; exact decL_small (by decide)
theorem text0 : strOfNums (textA 0 [] []) = ⟨#[97, 97, 103, 32, 48, 32, 48, 32, 48, 32, 48, 32, 48, 10]⟩ := by
  have : textA 0 [] [] = [97, 97, 103, 32, 48, 32, 48, 32, 48, 32, 48, 32, 48, 10] := by simp [textA, headT, insT, outsT, gatesT, lineL, bodyL, itoaL_0]
  rw [this]
  rfl

set_option maxHeartbeats 1000000 in
theorem first11_any (A : Nat → Addr) (w : World) (hS : Sents w A) (ht : Tabs w) : Calls Tryd.prog 23 #[] w fun e w' => e = .returned (.bool true) ∧ Below w.heap.size w w' := by
  have HR := Lib.hid (readA_any A (.slice none 0 0) [] w hS (RowG.nil _ _ _) Bts.nil (by simp))
  rw [show (([] : List Int).length : Int) = 0 by rfl, readA_nil] at HR
  have HP := Lib.hid (fun W => placed_any 101 0 W (by omega))
  have HY := Lib.hid (fun ev W (h : ErrAs W ev 101 true 0) => see_yes ev 101 true 0 W h)
  have HSS := Lib.hid (fun W (hW : Below w.heap.size w W) => hS.keep hW)
  have HTB := Lib.hid (fun W (hW : Below w.heap.size w W) => by0_any W (ht.keep hW))
  have HCV := Lib.hid (fun (W : World) (v : Value) (B : Nat) (h : W.ownsRow B 5 1 v (textA 0 [] []).length ((textA 0 [] []).map (Value.int .u8))) => conv_own h)
  rw [text0] at HCV
  unfold ReadP badC at HR
  unfold circV at HTB
  unfold circV at HR
  clear hS ht
  go_enter Tryd.func23, Tryd.ntmps23
  go_wp2_with (first
    | (go_at_call 21; refine HR.out.mono ?_; rintro e w1 ⟨⟨u, v, ov, rfl, hU, hV, hO⟩, hb1⟩; have hs1 := hb1.size; have hE := hO.err (HSS.out _ hb1); obtain ⟨a9, c9, rfl, _⟩ := hU; obtain ⟨a8, c8, rfl, _⟩ := hV)
    | (go_at_call 18; refine (HP.out _).mono ?_; rintro e w2 ⟨rfl, hb2⟩)
    | (go_at_call 17; refine (HY.out _ _ ?_).mono ?_; rotate_left; rintro e w3 ⟨rfl, hb3⟩; have HW3 : Hid (Below w.heap.size w w3) := (by have hq : Below w1.heap.size w1 w2 := ((Below.refl _ w1).alloc (Nat.le_refl _) _).trans (hb2.mono (by simp)); exact hb1.trans ((hq.trans (hb3.mono hq.size)).mono hs1)))
    | (go_at_call 22; refine (HTB.out _ HW3.out).mono ?_; rintro e w4 ⟨v4, rfl, hown4, hb4⟩; have kc := HCV.out _ _ _ hown4; have HB4 := Lib.hid hb4; obtain ⟨a4, c4, rfl, _, _⟩ := own_shape hown4; clear hown4 hb4))
  · go_ret
    exact ⟨rfl, HW3.out.trans (HB4.out.mono HW3.out.size)⟩
  · exact hE.keep (((Below.refl _ w1).alloc (Nat.le_refl _) _).trans (hb2.mono (by simp)))
end Go.Proofs.YtfkodpglgeghlaaDoor
