/- The contract of prefix.Norm: which error it tells, or which game it is. Conditions: the formula reads as blocks and clauses, not too many; the three errors lie as 'Sents3' says. -/
import Derived.Test.YtcodmijphejfdaaDoorChkF
import Derived.Test.YtcodmijphejfdaaDoorFree
import Derived.Test.YtcodmijphejfdaaDoorConcat
import Derived.Test.YtcodmijphejfdaaDoorCopies
namespace Go.Proofs.YtcodmijphejfdaaDoor
open Go.RowKit

/-- The blocks that Norm counts. -/
def gameL (bs : List Blk) (xss : List (List Int)) : List Blk := mergeL ((true, freeL bs xss) :: bs)
def exG (ms : List Blk) : Bool := if ms.length = 0 then true else (ms.getD 0 blk0).1
def outG (ms : List Blk) : List Int := (ms.getD 0 blk0).2
def inG (ms : List Blk) : List Int := (ms.getD 1 blk0).2
/-- The value is this game. -/
def GameV (w : World) (gv : Value) (ex : Bool) (o i : List Int) (xss : List (List Int)) : Prop :=
  ∃ vo vi a cap, gv = .agg #[.bool ex, vo, vi, .slice a xss.length cap] ∧ Row w vo o ∧ Row w vi i ∧ RowsAt w a cap xss
theorem GameV.keep {w w' : World} {gv : Value} {ex : Bool} {o i : List Int} {xss : List (List Int)} (h : GameV w gv ex o i xss) (hb : Below w.heap.size w w') : GameV w' gv ex o i xss := by
  obtain ⟨vo, vi, a, cap, e, h1, h2, h3⟩ := h
  exact ⟨vo, vi, a, cap, e, h1.keep hb, h2.keep hb, h3.keep hb⟩
def zeroG : Value := .agg #[.bool false, .slice none 0 0, .slice none 0 0, .slice none 0 0]
theorem zeroG_v (w : World) : GameV w zeroG false [] [] [] := ⟨_, _, none, 0, rfl, Row.nil w, Row.nil w, Nat.le_refl _, by unfold maxLen; omega, .inl rfl⟩
def NormPost (A : Nat → Addr) (w : World) (vars : Int) (bs : List Blk) (xss : List (List Int)) (e : Ending) (w' : World) : Prop :=
  ∃ gv ev, e = .returned (.tuple #[gv, ev]) ∧ Below w.heap.size w w' ∧
    ((∃ c p k, c ≠ 0 ∧ CheckFF vars bs xss c p k ∧ ErrR A w' ev c p k ∧ gv = zeroG) ∨
      (CheckFF vars bs xss 0 false 0 ∧ 2 < (gameL bs xss).length ∧ ev = sentV A 4 ∧ gv = zeroG) ∨
      (CheckFF vars bs xss 0 false 0 ∧ (gameL bs xss).length ≤ 2 ∧ ev = .nilIface ∧ GameV w' gv (exG (gameL bs xss)) (outG (gameL bs xss)) (inG (gameL bs xss)) xss))

/-- slices.Concat of a block that was just laid, and others. -/
theorem concat_lit (w : World) (fv : Value) (l : List Int) (q : Option Addr) (d : Nat) (bs : List Blk) (hf : Row w fv l) (hq : BRowsAt w q d bs) (hn : bs.length ≤ 999999999) (T : TypeId) :
    Calls Tryd.prog 26 #[.slice (some ⟨w.heap.size + 1 + 1, 0, none⟩) 2 2] (((w.alloc (.cells #[.bool true, fv] 58)).alloc (.cells #[.bool true, fv] 58)).alloc (.cells #[.slice (some ⟨w.heap.size + 1, 0, none⟩) 1 1, .slice q bs.length d] T))
      fun e w' => (∃ a cap, e = .returned (.slice a ((true, l) :: bs).length cap) ∧ BRowsAt w' a cap ((true, l) :: bs)) ∧ Below w.heap.size w w' := by
  have h1 : Below w.heap.size w (w.alloc (.cells #[.bool true, fv] 58)) := (Below.refl _ _).alloc (Nat.le_refl _) _
  have h2 : Below w.heap.size w ((w.alloc (.cells #[.bool true, fv] 58)).alloc (.cells #[.bool true, fv] 58)) := h1.alloc (by simp) _
  have h3 : Below w.heap.size w (((w.alloc (.cells #[.bool true, fv] 58)).alloc (.cells #[.bool true, fv] 58)).alloc (.cells #[.slice (some ⟨w.heap.size + 1, 0, none⟩) 1 1, .slice q bs.length d] T)) := h2.alloc (by simp; omega) _
  have hs : ((w.alloc (.cells #[.bool true, fv] 58)).alloc (.cells #[.bool true, fv] 58)).heap.size = w.heap.size + 1 + 1 := by simp
  have hs1 : (w.alloc (.cells #[.bool true, fv] 58)).heap.size = w.heap.size + 1 := by simp
  obtain ⟨c0, c1⟩ := cells2 ((w.alloc (.cells #[.bool true, fv] 58)).alloc (.cells #[.bool true, fv] 58)) _ (.slice (some ⟨w.heap.size + 1, 0, none⟩) 1 1) (.slice q bs.length d) T (Below.refl _ _)
  rw [hs] at c0 c1
  obtain ⟨d0, d1⟩ := cells2 (w.alloc (.cells #[.bool true, fv] 58)) (((w.alloc (.cells #[.bool true, fv] 58)).alloc (.cells #[.bool true, fv] 58)).alloc (.cells #[.slice (some ⟨w.heap.size + 1, 0, none⟩) 1 1, .slice q bs.length d] T)) (.bool true) fv 58 ((Below.refl _ _).alloc (Nat.le_refl _) _)
  rw [hs1] at d0 d1
  have hb1 : BRowsAt (((w.alloc (.cells #[.bool true, fv] 58)).alloc (.cells #[.bool true, fv] 58)).alloc (.cells #[.slice (some ⟨w.heap.size + 1, 0, none⟩) 1 1, .slice q bs.length d] T)) (some ⟨w.heap.size + 1, 0, none⟩) 1 [(true, l)] := by
    refine ⟨Nat.le_refl _, by unfold maxLen; omega, .inr ⟨_, 0, rfl, by simp, fun i hi => ?_⟩⟩
    have : i = 0 := by simp at hi; omega
    subst this
    exact ⟨d0, fv, d1, hf.keep h3⟩
  refine (concatB_any (w.heap.size + 1 + 1) (some ⟨w.heap.size + 1, 0, none⟩) q 1 d [(true, l)] bs _ c0 c1 hb1 (hq.keep h3) (by simp) (by simp; omega)).mono ?_
  rintro e w' ⟨⟨a, cap, h4, h5⟩, h6⟩
  exact ⟨⟨a, cap, h4, h5⟩, h3.trans (h6.mono h3.size)⟩
theorem cells4 (w W : World) (x y z t : Value) (T : TypeId) (h : Below (w.alloc (.cells #[x, y, z, t] T)).heap.size (w.alloc (.cells #[x, y, z, t] T)) W) : (W.cell? ⟨w.heap.size, 0, none⟩ = some x ∧ W.cell? ⟨w.heap.size, 1, none⟩ = some y ∧ W.cell? ⟨w.heap.size, 2, none⟩ = some z ∧ W.cell? ⟨w.heap.size, 3, none⟩ = some t) ∧ ∀ j, W.frozen? ⟨w.heap.size, j, none⟩ = false := by
  obtain ⟨hc, hf⟩ := bcell h
  exact ⟨⟨by rw [hc _ _ (by simp), World.cell?_alloc_at _ _ _ _ (by simp)]; rfl, by rw [hc _ _ (by simp), World.cell?_alloc_at _ _ _ _ (by simp)]; rfl, by rw [hc _ _ (by simp), World.cell?_alloc_at _ _ _ _ (by simp)]; rfl, by rw [hc _ _ (by simp), World.cell?_alloc_at _ _ _ _ (by simp)]; rfl⟩,
    fun j => by rw [hf _ _ (by simp), World.frozen?_alloc_at _ _ _ _ (by simp)]⟩
def fmO (q : Option Addr) (n d : Nat) (vars : Int) (a : Option Addr) (m c : Nat) : Obj := .cells #[.slice q n d, .int .i64 vars, .slice a m c] 27
def gmO : Obj := .cells #[.bool false, .slice none 0 0, .slice none 0 0, .slice none 0 0] 32
/-- The formula at hand and the result's place, seen from later worlds. -/
theorem norm_box (w W : World) (q : Option Addr) (n d : Nat) (vars : Int) (a : Option Addr) (m c : Nat) (h : Below ((w.alloc (fmO q n d vars a m c)).alloc gmO).heap.size ((w.alloc (fmO q n d vars a m c)).alloc gmO) W) :
    (W.cell? ⟨w.heap.size, 0, none⟩ = some (.slice q n d) ∧ W.cell? ⟨w.heap.size, 1, none⟩ = some (.int .i64 vars) ∧ W.cell? ⟨w.heap.size, 2, none⟩ = some (.slice a m c)) ∧
    ((W.cell? ⟨w.heap.size + 1, 0, none⟩ = some (.bool false) ∧ W.cell? ⟨w.heap.size + 1, 1, none⟩ = some (.slice none 0 0) ∧ W.cell? ⟨w.heap.size + 1, 2, none⟩ = some (.slice none 0 0) ∧ W.cell? ⟨w.heap.size + 1, 3, none⟩ = some (.slice none 0 0)) ∧
      W.frozen? ⟨w.heap.size + 1, 0, none⟩ = false ∧ W.frozen? ⟨w.heap.size + 1, 1, none⟩ = false ∧ W.frozen? ⟨w.heap.size + 1, 2, none⟩ = false ∧ W.frozen? ⟨w.heap.size + 1, 3, none⟩ = false) ∧ Below w.heap.size w W := by
  have hs : (w.alloc (fmO q n d vars a m c)).heap.size = w.heap.size + 1 := by simp
  have h1 := cells3 w W _ _ _ _ (((Below.refl _ _).alloc (Nat.le_refl _) gmO).trans (h.mono (by simp)))
  obtain ⟨h2, h3⟩ := cells4 (w.alloc (fmO q n d vars a m c)) W _ _ _ _ _ h
  rw [hs] at h2 h3
  exact ⟨h1, ⟨h2, h3 0, h3 1, h3 2, h3 3⟩, (((Below.refl _ w).alloc (Nat.le_refl _) _).alloc (by simp) _).trans (h.mono (by simp; omega))⟩
end Go.Proofs.YtcodmijphejfdaaDoor
