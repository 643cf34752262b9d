/- Three blocks of three cells each, as the document's ReadAag has them; what it answers; its fault at the head. Conditions: the slice reads as bytes, few of them. -/
import Derived.Test.YtcefeidfmnggaaaDoorRgr
import Derived.Deep.LoopGhost
import Derived.Deep.CutBlock
namespace Go.Proofs.YtcefeidfmnggaaaDoor
open Go.RowKit

/-- Three cells at block q. -/
def T3 (W : World) (q : Nat) (x y z : Value) : Prop := W.cell? ⟨q, 0, none⟩ = some x ∧ W.cell? ⟨q, 1, none⟩ = some y ∧ W.cell? ⟨q, 2, none⟩ = some z ∧ (∀ o, W.frozen? ⟨q, o, none⟩ = false) ∧ q < W.heap.size
theorem T3.chg {W W' : World} {q : Nat} {x y z : Value} {S : List Nat} (h : T3 W q x y z) (hc : Chg S W W') (hq : q ∉ S) : T3 W' q x y z :=
  ⟨(hc.cell h.2.2.2.2 hq).trans h.1, (hc.cell h.2.2.2.2 hq).trans h.2.1, (hc.cell h.2.2.2.2 hq).trans h.2.2.1, fun o => (hc.frz h.2.2.2.2 hq).trans (h.2.2.2.1 o), Nat.lt_of_lt_of_le h.2.2.2.2 hc.size⟩
theorem T3.low {a b : World} {q B : Nat} {x y z : Value} (h : T3 a q x y z) (hb : Below B a b) (hq : q < B) : T3 b q x y z := h.chg (chg_up hb) (up_not hq)
theorem T3.start (w : World) (x y z : Value) (T : TypeId) : T3 (w.alloc (.cells #[x, y, z] T)) w.heap.size x y z := by
  refine ⟨?_, ?_, ?_, fun o => World.frozen?_alloc_at _ _ _ _ (by simp), by simp⟩
  · rw [World.cell?_alloc_at _ _ _ _ (by simp)]; rfl
  · rw [World.cell?_alloc_at _ _ _ _ (by simp)]; rfl
  · rw [World.cell?_alloc_at _ _ _ _ (by simp)]; rfl
theorem T3.set3 {W : World} {q : Nat} {x y z : Value} (h : T3 W q x y z) (x' y' z' : Value) : T3 (set3 W q x' y' z') q x' y' z' := by
  obtain ⟨h0, h1, h2, h3, h4⟩ := h
  refine ⟨?_, ?_, ?_, fun o => ?_, ?_⟩
  · exact (set_off (.inr (by decide))).trans ((set_off (.inr (by decide))).trans (set_at h0))
  · exact (set_off (.inr (by decide))).trans (set_at ((set_off (.inr (by decide))).trans h1))
  · exact set_at ((set_off (.inr (by decide))).trans ((set_off (.inr (by decide))).trans h2))
  · exact (World.frozen?_setCell _ _ _ _).trans ((World.frozen?_setCell _ _ _ _).trans ((World.frozen?_setCell _ _ _ _).trans (h3 o)))
  · unfold Go.Proofs.YtcefeidfmnggaaaDoor.set3; simpa using h4
theorem T3.off {W : World} {q q' : Nat} {x y z x' y' z' : Value} (h : T3 W q x y z) (hq : q ≠ q') : T3 (Go.Proofs.YtcefeidfmnggaaaDoor.set3 W q' x' y' z') q x y z :=
  h.chg (S := [q']) (set3_chg (Chg.refl _ _) (.inl (by simp))) (by simpa using hq)
theorem res6 {W : World} {q : Nat} {n c k : Int} {b : Bool} {u v : Value} {tmps : Array Value} (h : T3 W q (.int .i64 n) u v) (h' : T3 W (q + 1) (.int .i64 c) (.bool b) (.int .i64 k)) (h2 : tmps.getD 2 undef = .pointer (some ⟨q, 0, none⟩)) (h3 : tmps.getD 3 undef = .pointer (some ⟨q + 1, 0, none⟩)) : (results Tryd.f8 tmps).run Tryd.prog W = .ok (.tuple #[circV n u v, faultV c b k]) W := by
  obtain ⟨c0, c1, c2, _, _⟩ := h
  obtain ⟨d0, d1, d2, _, _⟩ := h'
  rw [Array.getD_eq_getD_getElem?] at h2 h3
  simp [results, Tryd.results8, go_sem, circV, faultV, h2, h3, c0, c1, c2, d0, d1, d2]
/-- The results, and 'none', before anything is told. -/
def ZB (W : World) (q : Nat) : Prop := T3 W q (.int .i64 0) (.slice none 0 0) (.slice none 0 0) ∧ T3 W (q + 1) (.int .i64 0) (.bool false) (.int .i64 0) ∧ T3 W (q + 1 + 1) (.int .i64 0) (.slice none 0 0) (.slice none 0 0)
theorem ZB.low {a b : World} {q : Nat} (h : ZB a q) (hb : Below (q + 3) a b) : ZB b q := ⟨h.1.low hb (by omega), h.2.1.low hb (by omega), h.2.2.low hb (by omega)⟩
def RefP (w : World) (R : Res) (r : Ending) (w' : World) : Prop :=
  (∃ u v, r = .returned (.tuple #[circV R.1.1 u v, faultV (fcode R.2) R.2.isSome (fpos R.2)]) ∧ PRow w' u R.1.2.1 ∧ Row w' v R.1.2.2) ∧ Below w.heap.size w w'
/-- The end where something is amiss. -/
def finB (W : World) (q : Nat) (c k : Int) : World := set3 (set3 W q (.int .i64 0) (.slice none 0 0) (.slice none 0 0)) (q + 1) (.int .i64 c) (.bool true) (.int .i64 k)
theorem finB_res {W : World} {q : Nat} {c k : Int} {tmps : Array Value} (h : ZB W q) (h2 : tmps.getD 2 undef = .pointer (some ⟨q, 0, none⟩)) (h3 : tmps.getD 3 undef = .pointer (some ⟨q + 1, 0, none⟩)) : (results Tryd.f8 tmps).run Tryd.prog (finB W q c k) = .ok (.tuple #[circV 0 (.slice none 0 0) (.slice none 0 0), faultV c true k]) (finB W q c k) :=
  res6 ((h.1.set3 _ _ _).off (by omega)) ((h.2.1.off (by omega)).set3 _ _ _) h2 h3
theorem finB_post {w W : World} {R : Res} {l : Bool} {c k : Int} (hR : R = badC (l, k)) (hc : c = if l = true then 102 else 101) (hb : Below w.heap.size w W) : RefP w R (.returned (.tuple #[circV 0 (.slice none 0 0) (.slice none 0 0), faultV c true k])) (finB W w.heap.size c k) := by
  subst hR
  subst hc
  exact ⟨⟨_, _, rfl, PRow.nil _, Row.nil _⟩, (((((hb.setCell (Nat.le_refl _) _).setCell (Nat.le_refl _) _).setCell (Nat.le_refl _) _).setCell (Nat.le_succ _) _).setCell (Nat.le_succ _) _).setCell (Nat.le_succ _) _⟩
def three (w : World) : World := ((w.alloc (.cells #[.int .i64 0, .slice none 0 0, .slice none 0 0] 27)).alloc (.cells #[.int .i64 0, .bool false, .int .i64 0] 33)).alloc (.cells #[.int .i64 0, .slice none 0 0, .slice none 0 0] 27)
theorem three_zb (w : World) : ZB (three w) w.heap.size ∧ Below w.heap.size w (three w) ∧ (three w).heap.size = w.heap.size + 3 := by
  have b1 := (Below.refl _ (w.alloc (.cells #[.int .i64 0, .slice none 0 0, .slice none 0 0] 27))).alloc (Nat.le_refl _) (.cells #[.int .i64 0, .bool false, .int .i64 0] 33)
  have b2 := (Below.refl _ ((w.alloc (.cells #[.int .i64 0, .slice none 0 0, .slice none 0 0] 27)).alloc (.cells #[.int .i64 0, .bool false, .int .i64 0] 33))).alloc (Nat.le_refl _) (.cells #[.int .i64 0, .slice none 0 0, .slice none 0 0] 27)
  have h1 := T3.start w (.int .i64 0) (.slice none 0 0) (.slice none 0 0) 27
  have h2 := T3.start (w.alloc (.cells #[.int .i64 0, .slice none 0 0, .slice none 0 0] 27)) (.int .i64 0) (.bool false) (.int .i64 0) 33
  have h3 := T3.start ((w.alloc (.cells #[.int .i64 0, .slice none 0 0, .slice none 0 0] 27)).alloc (.cells #[.int .i64 0, .bool false, .int .i64 0] 33)) (.int .i64 0) (.slice none 0 0) (.slice none 0 0) 27
  refine ⟨⟨(h1.low b1 (by simp)).low b2 (by simp; omega), ?_, ?_⟩, (((Below.refl _ w).alloc (Nat.le_refl _) _).alloc (by simp) _).alloc (by simp; omega) _, by unfold three; simp⟩
  · have := h2.low b2 (by simp); unfold three; simpa using this
  · unfold three; simpa [Nat.add_assoc] using h3
theorem headR_n0 {e : Int} {ws : List Wd} (h : ¬ (0 < ws.length ∧ fst ws 0 = true ∧ txt ws 0 = [97, 97, 103])) : headR e ws = .bad (posL ws 0 e) := by
  cases ws with
  | nil => rfl
  | cons x ws =>
    have hp : posL (x :: ws) 0 e = x.2.1 := rfl
    rw [hp]
    unfold headR
    by_cases hx : x.2.2 = true
    · rw [nextR_ok hx]; exact if_neg (fun h' => h ⟨by simp, hx, h'⟩)
    · rw [nextR_bad hx]
theorem headR_y0 {e : Int} {ws : List Wd} (h : 0 < ws.length ∧ fst ws 0 = true ∧ txt ws 0 = [97, 97, 103]) : headR e ws = fiveR e 5 (ws.drop 1) [] := by
  cases ws with
  | nil => exact absurd h.1 (by simp)
  | cons x ws =>
    unfold headR
    rw [nextR_ok (show x.2.2 = true from h.2.1)]
    exact if_pos h.2.2
theorem readR_head {e k : Int} {ws : List Wd} (h : headR e ws = .bad k) : readR e ws = badC (false, k) := by unfold readR; rw [h]
end Go.Proofs.YtcefeidfmnggaaaDoor
