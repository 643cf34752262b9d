/- Contracts of the program's and the document's Circuit. Conditions: the graph lies in memory as 'GrM' ('RgM') says; the outputs read as ints, not too many. -/
import Derived.Test.YtdmhjpofinnpmaaDoorCln
import Derived.Test.YtdmhjpofinnpmaaDoorIntsR
import Derived.Test.YtdmhjpofinnpmaaDoorRgC
import Derived.Deep.RegionHeld3
import Derived.Laws.ResultCell
import Derived.WalkLawsBesides
namespace Go.Proofs.YtdmhjpofinnpmaaDoor
open Go.RowKit

/-- A circuit as a value. -/
def circV (n : Int) (u v : Value) : Value := .agg #[.int .i64 n, u, v]
/-- What a Circuit call answers: its rows lie in memory of the call's own. -/
def CirPost (w : World) (n : Int) (ps : List (Int × Int)) (os : List Int) (e : Ending) (w' : World) : Prop :=
  (∃ u v, e = .returned (circV n u v) ∧ w'.ownsRow (w.heap.size + 1) 49 2 u ps.length (ps.flatMap pcells) ∧ w'.ownsRow (w.heap.size + 1) 3 1 v os.length (os.map (Value.int .i64))) ∧ Below w.heap.size w w'
theorem cir_set {w W : World} {E : TypeId} {s n : Nat} {u : Value} {xs : List Value} (h : W.ownsRow (w.heap.size + 1) E s u n xs) (a b c : Value) : (((W.setCell ⟨w.heap.size, 0, none⟩ a).setCell ⟨w.heap.size, 1, none⟩ b).setCell ⟨w.heap.size, 2, none⟩ c).ownsRow (w.heap.size + 1) E s u n xs :=
  ownsRow_setCell_below (ownsRow_setCell_below (ownsRow_setCell_below h (a := ⟨w.heap.size, 0, none⟩) (Nat.lt_succ_self _) _) (a := ⟨w.heap.size, 1, none⟩) (Nat.lt_succ_self _) _) (a := ⟨w.heap.size, 2, none⟩) (Nat.lt_succ_self _) _

set_option maxRecDepth 8000 in
set_option maxHeartbeats 4000000 in
theorem gcirc_any {A : Nat → Addr} {v : Value} {S : List Nat} {g : Gr} (w : World) (h : GrM w A v S g) (o : Value) (os : List Int) (ho : Row w o os) (hn : os.length ≤ 1000000) :
    Calls Tryd.prog 28 #[v, o] w (CirPost w (g.n : Int) g.ands os) := by
  obtain ⟨p, m, u, N, D, h⟩ := h
  obtain rfl := h.val
  have hga : g.ands.length ≤ 8000 := by have := h.len; unfold Gr.len at this; omega
  have HPR := Lib.hid (own_prow h.row)
  obtain ⟨ao, co, rfl, _, _⟩ := row_shape h.row
  have hpl : p < w.heap.size := h.lt p (by rw [h.foot]; simp)
  have c0 := h.c0
  have c1 := h.c1
  have HP : Hid (∀ W, Below w.heap.size w W → W.cell? ⟨p, 0, none⟩ = some (.int .i64 (g.n : Int)) ∧ W.cell? ⟨p, 1, none⟩ = some (.slice ao g.ands.length co)) := fun W hW => ⟨(hW.cell (p := ⟨p, 0, none⟩) hpl).trans c0, (hW.cell (p := ⟨p, 1, none⟩) hpl).trans c1⟩
  have HC1 := Lib.hid (fun W (hW : Below w.heap.size w W) => cloneP_any _ g.ands W (HPR.out.keep hW) (by omega))
  have HC2 := Lib.hid (fun W (hW : Below w.heap.size w W) => cloneI_any o os W (ho.keep hW) hn)
  obtain ⟨a0, n0, k0, rfl⟩ : ∃ a n c, o = .slice a n c := by obtain ⟨a, c, rfl, _⟩ := ho; exact ⟨_, _, _, rfl⟩
  have HV : Hid (∀ W, Below (w.heap.size + 1) (w.alloc (.cells #[.int .i64 0, .slice none 0 0, .slice none 0 0] 26)) W → Below w.heap.size w W) := fun W hW => ((Below.refl _ w).alloc (Nat.le_refl _) _).trans (hW.mono (by omega))
  have HZ : Hid (∀ W, Below (w.heap.size + 1) (w.alloc (.cells #[.int .i64 0, .slice none 0 0, .slice none 0 0] 26)) W → (W.cell? ⟨w.heap.size, 0, none⟩ = some (.int .i64 0) ∧ W.cell? ⟨w.heap.size, 1, none⟩ = some (.slice none 0 0) ∧ W.cell? ⟨w.heap.size, 2, none⟩ = some (.slice none 0 0)) ∧ (∀ k, W.frozen? ⟨w.heap.size, k, none⟩ = false) ∧ w.heap.size < W.heap.size) := fun W hW => by
    refine ⟨⟨?_, ?_, ?_⟩, fun k => ?_, by have := hW.size; simp at this; omega⟩
    · rw [hW.cell (p := ⟨w.heap.size, 0, none⟩) (by simp), cell_of_row _ _ 0 _ 26 (0, 0) (heap_alloc_new _ _)]; rfl
    · rw [hW.cell (p := ⟨w.heap.size, 1, none⟩) (by simp), cell_of_row _ _ 1 _ 26 (0, 0) (heap_alloc_new _ _)]; rfl
    · rw [hW.cell (p := ⟨w.heap.size, 2, none⟩) (by simp), cell_of_row _ _ 2 _ 26 (0, 0) (heap_alloc_new _ _)]; rfl
    · rw [hW.frozen (p := ⟨w.heap.size, k, none⟩) (by simp)]
      have := heap_alloc_new w (.cells #[.int .i64 0, .slice none 0 0, .slice none 0 0] 26)
      simp only [World.frozen?, this]
      simp
  clear h ho hn hga c0 c1 hpl
  have HGA := Lib.hid (show g.ands.length = g.ands.length from rfl)
  go_enter Tryd.func28, Tryd.ntmps28
  go_wp2_with fail
  have hV0 : Below (w.heap.size + 1) (w.alloc (.cells #[.int .i64 0, .slice none 0 0, .slice none 0 0] 26)) (w.alloc (.cells #[.int .i64 0, .slice none 0 0, .slice none 0 0] 26)).drew := (Below.refl _ _).drew
  have HS0 : Hid (w.heap.size + 1 ≤ (w.alloc (.cells #[.int .i64 0, .slice none 0 0, .slice none 0 0] 26)).drew.heap.size) := by unfold Hid; simp
  go_region_held3 (fun W => W.cell? ⟨p, 0, none⟩ = some (.int .i64 (g.n : Int)) ∧ W.cell? ⟨p, 1, none⟩ = some (.slice ao g.ands.length co)) (first | exact HP.out _ (HV.out _ hV0) | exact HP.out _ (HV.out _ hVA) | exact HP.out _ (HV.out _ hVB) | exact HP.out _ ((((HV.out _ hVB).setCell (by simp) _).setCell (by simp) _).setCell (by simp) _) | exact HP.out _ ((((HV.out _ hVA).setCell (by simp) _).setCell (by simp) _).setCell (by simp) _)) (first
    | (go_at_call 46; refine (HC1.out _ (by first | exact HV.out _ hV0 | exact HV.out _ hVB)).mono ?_; rintro e wA ⟨⟨uA, rfl, hPA⟩, hbA⟩; have HPA := Lib.hid (own_base hPA (show w.heap.size + 1 ≤ _ by first | exact HS0.out | exact zBs)); have HBA := Lib.hid hbA; have hVA : Below (w.heap.size + 1) (w.alloc (.cells #[.int .i64 0, .slice none 0 0, .slice none 0 0] 26)) wA := Below.trans (by first | exact hV0 | exact hVB) (hbA.mono (by first | exact HS0.out | exact zBs)); obtain ⟨⟨zA0, zA1, zA2⟩, zAf, zAs⟩ := HZ.out _ hVA; obtain ⟨aA, cA, rfl, _⟩ := row_shape hPA; clear hPA hbA)
    | (go_at_call 47; refine (HC2.out _ (by first | exact HV.out _ hV0 | exact HV.out _ hVA)).mono ?_; rintro e wB ⟨⟨uB, rfl, hPB⟩, hbB⟩; have HPB := Lib.hid (own_base hPB (show w.heap.size + 1 ≤ _ by first | exact HS0.out | exact zAs)); have HBB := Lib.hid hbB; have hVB : Below (w.heap.size + 1) (w.alloc (.cells #[.int .i64 0, .slice none 0 0, .slice none 0 0] 26)) wB := Below.trans (by first | exact hV0 | exact hVA) (hbB.mono (by first | exact HS0.out | exact zAs)); obtain ⟨⟨zB0, zB1, zB2⟩, zBf, zBs⟩ := HZ.out _ hVB; obtain ⟨aB, cB, rfl, _⟩ := row_shape hPB; clear hPB hbB))
  all_goals
    go_wp2_with fail
    have hA := by first | exact own_keep HPA.out HBB.out | exact HPA.out
    have hB := by first | exact own_keep HPB.out HBA.out | exact HPB.out
    exact bodyPost_ret (v := circV (g.n : Int) (.slice aA g.ands.length cA) (.slice aB os.length cB)) (by first | (simp [results, Tryd.results28, go_sem, circV, zB0, zB1, zB2]; done) | (simp [results, Tryd.results28, go_sem, circV, zA0, zA1, zA2]; done)) rfl ⟨⟨_, _, rfl, cir_set hA _ _ _, cir_set hB _ _ _⟩, (((by first | exact HV.out _ hVB | exact HV.out _ hVA : Below w.heap.size w _).setCell (by simp) _).setCell (by simp) _).setCell (by simp) _⟩
end Go.Proofs.YtdmhjpofinnpmaaDoor
