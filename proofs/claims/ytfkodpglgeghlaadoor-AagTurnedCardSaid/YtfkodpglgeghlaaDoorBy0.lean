/- Contract of aag.Bytes at the circuit of nothing. Conditions: the table of powers of ten is as the program lays it. -/
import Derived.Test.YtfkodpglgeghlaaDoorLin
import Derived.Test.YtfkodpglgeghlaaDoorPrA
import Derived.Lib.SlBytesConst
namespace Go.Proofs.YtfkodpglgeghlaaDoor
open Go.RowKit

set_option maxRecDepth 8000 in
set_option maxHeartbeats 4000000 in
theorem by0_any (w : World) (ht : Tabs w) :
    Calls Tryd.prog 22 #[circV 0 (.slice none 0 0) (.slice none 0 0)] w fun e w' => ∃ v, e = .returned v ∧ w'.ownsRow w.heap.size 5 1 v (textA 0 [] []).length ((textA 0 [] []).map (Value.int .u8)) ∧ Below w.heap.size w w' := by
  have hw0s : (w.alloc (.cells #[.int .i64 0, .slice none 0 0, .slice none 0 0] 27)).heap.size = w.heap.size + 1 := by simp
  have kc := Lib.run_convert_bytes_const (P := Tryd.prog) (w.alloc (.cells #[.int .i64 0, .slice none 0 0, .slice none 0 0] 27)) 23 5 #[.int .u8 97, .int .u8 97, .int .u8 103, .int .u8 32] 4 4 Tryd.underlying23 Tryd.underlying5
  rw [hw0s] at kc
  have HTB := Lib.hid (fun W (hb : Below w.heap.size w W) => ht.at (w.heap.size + 1) hb (by omega))
  clear ht
  have HL : Hid (∀ W, Ints W (w.heap.size + 2) [0, 0, 0, 0, 0] → (∀ j u, (([97, 97, 103, 32] : List Int).map (Value.int .u8))[j]? = some u → W.cell? ⟨w.heap.size + 1, j, none⟩ = some u) → Below w.heap.size w W → w.heap.size + 3 ≤ W.heap.size →
      Calls Tryd.prog 41 #[.slice (some ⟨w.heap.size + 1, 0, none⟩) 4 4, .slice (some ⟨w.heap.size + 2, 0, none⟩) 5 5] W fun e w' => ∃ v', e = .returned v' ∧ w'.ownsRow (w.heap.size + 1) 5 1 v' (textA 0 [] []).length ((textA 0 [] []).map (Value.int .u8)) ∧ Below (w.heap.size + 1) W w') := fun W hi hc hb hsz => by
    rw [show textA 0 [] [] = [97, 97, 103, 32] ++ lineL [0, 0, 0, 0, 0] by simp [textA, headT, insT, outsT, gatesT]]
    have h := appLine_any (w.heap.size + 1) (.slice (some ⟨w.heap.size + 1, 0, none⟩) 4 4) [97, 97, 103, 32] 0 [0, 0, 0, 0] (w.heap.size + 2) W hi (by omega)
      (appFirst_ints (w.heap.size + 1) (w.heap.size + 1) 4 0 (by omega) [97, 97, 103, 32] rfl (by omega) W (by omega) hc (by have := hi.lt; omega) (HTB.out W hb).here (w.heap.size + 2) _ hi)
      (by intro n hn; simp at hn; subst hn; omega) (by simp) (by have := lineL_len [0, 0, 0, 0, 0] (by intro n hn; simp at hn; subst hn; omega); simp only [List.length_append, List.length_cons, List.length_nil] at *; omega) (fun W' hW' => HTB.out W' (hb.trans (hW'.mono (by omega))))
    exact h
  have HCI : Hid (Ints (((w.alloc (.cells #[.int .i64 0, .slice none 0 0, .slice none 0 0] 27)).alloc (.cells #[.int .u8 97, .int .u8 97, .int .u8 103, .int .u8 32] 5 (4, 5))).alloc (.cells #[.int .i64 0, .int .i64 0, .int .i64 0, .int .i64 0, .int .i64 0] 3)) (w.heap.size + 2) [0, 0, 0, 0, 0]) := by
    unfold Hid Ints
    have := heap_alloc_new ((w.alloc (.cells #[.int .i64 0, .slice none 0 0, .slice none 0 0] 27)).alloc (.cells #[.int .u8 97, .int .u8 97, .int .u8 103, .int .u8 32] 5 (4, 5))) (.cells #[.int .i64 0, .int .i64 0, .int .i64 0, .int .i64 0, .int .i64 0] 3)
    rw [show ((w.alloc (.cells #[.int .i64 0, .slice none 0 0, .slice none 0 0] 27)).alloc (.cells #[.int .u8 97, .int .u8 97, .int .u8 103, .int .u8 32] 5 (4, 5))).heap.size = w.heap.size + 2 by simp] at this
    exact this
  have HB0 : Hid (Below w.heap.size w (((w.alloc (.cells #[.int .i64 0, .slice none 0 0, .slice none 0 0] 27)).alloc (.cells #[.int .u8 97, .int .u8 97, .int .u8 103, .int .u8 32] 5 (4, 5))).alloc (.cells #[.int .i64 0, .int .i64 0, .int .i64 0, .int .i64 0, .int .i64 0] 3))) := (((Below.refl _ w).alloc (Nat.le_refl _) _).alloc (by simp) _).alloc (by simp; omega) _
  have HBQ : Hid (Below (w.heap.size + 1) (w.alloc (.cells #[.int .i64 0, .slice none 0 0, .slice none 0 0] 27)) (((w.alloc (.cells #[.int .i64 0, .slice none 0 0, .slice none 0 0] 27)).alloc (.cells #[.int .u8 97, .int .u8 97, .int .u8 103, .int .u8 32] 5 (4, 5))).alloc (.cells #[.int .i64 0, .int .i64 0, .int .i64 0, .int .i64 0, .int .i64 0] 3))) := ((Below.refl _ _).alloc (by simp) _).alloc (by simp) _
  have HCELL : Hid (∀ j u, (([97, 97, 103, 32] : List Int).map (Value.int .u8))[j]? = some u → (((w.alloc (.cells #[.int .i64 0, .slice none 0 0, .slice none 0 0] 27)).alloc (.cells #[.int .u8 97, .int .u8 97, .int .u8 103, .int .u8 32] 5 (4, 5))).alloc (.cells #[.int .i64 0, .int .i64 0, .int .i64 0, .int .i64 0, .int .i64 0] 3)).cell? ⟨w.heap.size + 1, j, none⟩ = some u) := fun j u hj => by
    have hb := (Below.refl ((w.alloc (.cells #[.int .i64 0, .slice none 0 0, .slice none 0 0] 27)).alloc (.cells #[.int .u8 97, .int .u8 97, .int .u8 103, .int .u8 32] 5 (4, 5))).heap.size ((w.alloc (.cells #[.int .i64 0, .slice none 0 0, .slice none 0 0] 27)).alloc (.cells #[.int .u8 97, .int .u8 97, .int .u8 103, .int .u8 32] 5 (4, 5)))).alloc (Nat.le_refl _) (.cells #[.int .i64 0, .int .i64 0, .int .i64 0, .int .i64 0, .int .i64 0] 3)
    rw [hb.cell (p := ⟨w.heap.size + 1, j, none⟩) (by simp), ← hw0s, World.cell?_alloc_mark]
    simpa using hj
  have HBOX : Hid (∀ W, Below (w.heap.size + 1) (w.alloc (.cells #[.int .i64 0, .slice none 0 0, .slice none 0 0] 27)) W → W.cell? ⟨w.heap.size, 0, none⟩ = some (.int .i64 0) ∧ W.cell? ⟨w.heap.size, 1, none⟩ = some (.slice none 0 0) ∧ W.cell? ⟨w.heap.size, 2, none⟩ = some (.slice none 0 0)) := fun W hW => by
    rw [← hw0s] at hW
    obtain ⟨hc, _⟩ := bcell hW
    exact ⟨by rw [hc _ _ (by simp), World.cell?_alloc_at _ _ _ _ (by simp)]; rfl, by rw [hc _ _ (by simp), World.cell?_alloc_at _ _ _ _ (by simp)]; rfl, by rw [hc _ _ (by simp), World.cell?_alloc_at _ _ _ _ (by simp)]; rfl⟩
  clear hw0s
  unfold circV
  go_enter Tryd.func22, Tryd.ntmps22
  go_wp2_with (go_at_call 41; refine (HL.out _ HCI.out HCELL.out HB0.out (by simp)).mono ?_; rintro e1 w1 ⟨v1, rfl, hown1, hb1⟩)
  have HO1 := Lib.hid (own_base hown1 (show w.heap.size ≤ w.heap.size + 1 by omega))
  have HB1 := Lib.hid (HB0.out.trans (hb1.mono (by omega)))
  obtain ⟨g0, g1, g2⟩ := HBOX.out w1 (HBQ.out.trans hb1)
  have hq1 : w.heap.size < w1.heap.size := by have := hb1.size; simp at this; omega
  clear hown1 hb1 HL HCI HB0 HBQ HCELL HTB kc
  go_loopw [4, 32] (fun b i wr => v1 = b ∧ i = .int .i64 0 ∧ w1 = wr) (fun _ _ _ => 0)
  case atStart => exact ⟨rfl, rfl, rfl⟩
  case round =>
    obtain ⟨rfl, rfl, rfl⟩ := hrel
    go_wp2_with fail
    go_loopw [4, 45] (fun b i wr => v1 = b ∧ i = .int .i64 0 ∧ w1 = wr) (fun _ _ _ => 0)
    case atStart => exact ⟨rfl, rfl, rfl⟩
    case round =>
      obtain ⟨rfl, rfl, rfl⟩ := hrel
      go_wp2_with fail
      go_loopw [4, 57] (fun b i wr => v1 = b ∧ i = .int .i64 0 ∧ w1 = wr) (fun _ _ _ => 0)
      case atStart => exact ⟨rfl, rfl, rfl⟩
      case round =>
        obtain ⟨rfl, rfl, rfl⟩ := hrel
        go_wp2_with fail
        go_ret
        exact ⟨_, rfl, HO1.out, HB1.out⟩
end Go.Proofs.YtfkodpglgeghlaaDoor
