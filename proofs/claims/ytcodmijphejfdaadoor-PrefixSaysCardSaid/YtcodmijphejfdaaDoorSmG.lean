/- The contract of the document's own skolemref.SameGame at the same game: true. Conditions: both sides read as it. -/
import Derived.Test.YtcodmijphejfdaaDoorSameCl
import Derived.Test.YtcodmijphejfdaaDoorHas
namespace Go.Proofs.YtcodmijphejfdaaDoor
open Go.RowKit

theorem smg_cells (w W : World) (x y z t : Value) (T : TypeId) (h : Below (w.alloc (.cells #[x, y, z, t] T)).heap.size (w.alloc (.cells #[x, y, z, t] T)) W) : W.cell? ⟨w.heap.size, 0, none⟩ = some x ∧ W.cell? ⟨w.heap.size, 1, none⟩ = some y ∧ W.cell? ⟨w.heap.size, 2, none⟩ = some z ∧ W.cell? ⟨w.heap.size, 3, none⟩ = some t := by
  obtain ⟨hc, _⟩ := bcell h
  exact ⟨by rw [hc _ _ (by simp), World.cell?_alloc_at _ _ _ _ (by simp)]; rfl, by rw [hc _ _ (by simp), World.cell?_alloc_at _ _ _ _ (by simp)]; rfl, by rw [hc _ _ (by simp), World.cell?_alloc_at _ _ _ _ (by simp)]; rfl, by rw [hc _ _ (by simp), World.cell?_alloc_at _ _ _ _ (by simp)]; rfl⟩

set_option maxHeartbeats 2000000 in
theorem sameGame_yes (ex : Bool) (v1 v2 u1 u2 : Value) (o i : List Int) (a a' : Option Addr) (c c' : Nat) (xss : List (List Int)) (w : World) (h1 : Row w v1 o) (h2 : Row w v2 i) (k1 : Row w u1 o) (k2 : Row w u2 i) (hv : RowsAt w a c xss) (hu : RowsAt w a' c' xss) :
    Calls Tryd.prog 9 #[.agg #[.bool ex, v1, v2, .slice a xss.length c], .agg #[.bool ex, u1, u2, .slice a' xss.length c']] w fun e w' => e = .returned (.bool true) ∧ Below w.heap.size w w' := by
  have HS := Lib.hid (fun W (hW : Below w.heap.size w W) => sameClauses_yes a a' c c' xss W (hv.keep hW) (hu.keep hW))
  have HT1 := Lib.hid (fun W (hW : Below w.heap.size w W) => sameInts_yes v1 u1 o o W (h1.keep hW) (k1.keep hW) rfl)
  have HT2 := Lib.hid (fun W (hW : Below w.heap.size w W) => sameInts_yes v2 u2 i i W (h2.keep hW) (k2.keep hW) rfl)
  have HB := Lib.hid (fun o1 o2 => show Below w.heap.size w ((w.alloc o1).alloc o2) from ((Below.refl _ w).alloc (Nat.le_refl _) _).alloc (by simp) _)
  have HC1 : Hid (∀ (W : World) (x y z t x' y' z' t' : Value) (T : TypeId), Below ((w.alloc (.cells #[x, y, z, t] T)).alloc (.cells #[x', y', z', t'] T)).heap.size ((w.alloc (.cells #[x, y, z, t] T)).alloc (.cells #[x', y', z', t'] T)) W → W.cell? ⟨w.heap.size, 2, none⟩ = some z ∧ W.cell? ⟨w.heap.size, 3, none⟩ = some t ∧ W.cell? ⟨w.heap.size + 1, 2, none⟩ = some z' ∧ W.cell? ⟨w.heap.size + 1, 3, none⟩ = some t') := fun W x y z t x' y' z' t' T h => by
    have h1 := smg_cells w W x y z t T (((Below.refl _ _).alloc (Nat.le_refl _) _).trans (h.mono (by simp)))
    have h2 := smg_cells (w.alloc (.cells #[x, y, z, t] T)) W x' y' z' t' T h
    rw [show (w.alloc (.cells #[x, y, z, t] T)).heap.size = w.heap.size + 1 by simp] at h2
    exact ⟨h1.2.2.1, h1.2.2.2, h2.2.2.1, h2.2.2.2⟩
  have hee : (ex == ex) = true := by simp
  obtain ⟨b1, d1, rfl, _⟩ := h1
  obtain ⟨b2, d2, rfl, _⟩ := h2
  obtain ⟨b3, d3, rfl, _⟩ := k1
  obtain ⟨b4, d4, rfl, _⟩ := k2
  clear hv hu
  generalize xss.length = n at *
  generalize o.length = m at *
  generalize i.length = p at *
  go_enter Tryd.func9, Tryd.ntmps9
  go_wp2_with (first
    | (go_at_call 11; refine (HT1.out _ (HB.out _ _)).mono ?_; rintro e w1 ⟨rfl, hb1⟩; have hbw1 := (HB.out _ _).trans (hb1.mono (by simp; omega)); have HP1 := Lib.hid hb1; clear HT1; obtain ⟨g1, g2, g3, g4⟩ := HC1.out _ _ _ _ _ _ _ _ _ _ hb1)
    | (go_at_call 11; refine (HT2.out _ hbw1).mono ?_; rintro e w2 ⟨rfl, hb2⟩; have hbw2 := hbw1.trans (hb2.mono hbw1.size); clear g1 g2 g3 g4; obtain ⟨g1, g2, g3, g4⟩ := HC1.out _ _ _ _ _ _ _ _ _ _ (HP1.out.trans (hb2.mono HP1.out.size)))
    | (go_at_call 30; refine (HS.out _ hbw2).mono ?_; rintro e w3 ⟨rfl, hb3⟩))
  go_ret
  exact ⟨rfl, hbw2.trans (hb3.mono hbw2.size)⟩
end Go.Proofs.YtcodmijphejfdaaDoor
