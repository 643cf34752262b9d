/- Contract of the reader's head. Conditions: the reader lies as 'RdM' says, its words are some bytes each; the errors lie as 'Sents' says. -/
import Derived.Test.YtfkodpglgeghlaaDoorHdc
import Derived.Deep.DeepCutAuto
import Derived.Deep.RegionHeld3
namespace Go.Proofs.YtfkodpglgeghlaaDoor
open Go.RowKit

theorem set_off10 (W : World) (q i j : Nat) (u : Value) (h : i ≠ j) : (W.setCell ⟨q, i, none⟩ u).cell? ⟨q, j, none⟩ = W.cell? ⟨q, j, none⟩ := set_off (.inr h)
/-- A head's ten cells. -/
def HC (W : World) (q : Nat) (hs : List (Int × Int)) : Prop := (∀ j, j < 5 → W.cell? ⟨q, j * 2, none⟩ = some (.int .i64 (hn hs j)) ∧ W.cell? ⟨q, j * 2 + 1, none⟩ = some (.int .i64 (hp hs j))) ∧ (∀ o, W.frozen? ⟨q, o, none⟩ = false) ∧ q < W.heap.size
theorem HC.chg {W W' : World} {q : Nat} {hs : List (Int × Int)} {S : List Nat} (h : HC W q hs) (hc : Chg S W W') (hq : q ∉ S) : HC W' q hs :=
  ⟨fun j hj => ⟨(hc.cell h.2.2 hq).trans (h.1 j hj).1, (hc.cell h.2.2 hq).trans (h.1 j hj).2⟩, fun o => (hc.frz h.2.2 hq).trans (h.2.1 o), Nat.lt_of_lt_of_le h.2.2 hc.size⟩
theorem HC.start (w : World) (T : TypeId) : HC (w.alloc (.cells #[.int .i64 0, .int .i64 0, .int .i64 0, .int .i64 0, .int .i64 0, .int .i64 0, .int .i64 0, .int .i64 0, .int .i64 0, .int .i64 0] T)) w.heap.size [] := by
  refine ⟨fun j hj => ?_, fun o => World.frozen?_alloc_at _ _ _ _ (by simp), by simp⟩
  rw [World.cell?_alloc_at _ _ _ _ (by simp), World.cell?_alloc_at _ _ _ _ (by simp)]
  match j, hj with
  | 0, _ => exact ⟨rfl, rfl⟩
  | 1, _ => exact ⟨rfl, rfl⟩
  | 2, _ => exact ⟨rfl, rfl⟩
  | 3, _ => exact ⟨rfl, rfl⟩
  | 4, _ => exact ⟨rfl, rfl⟩
theorem hn_snoc (hs : List (Int × Int)) (y : Int × Int) (j : Nat) : hn (hs ++ [y]) j = if j = hs.length then y.1 else hn hs j := by
  unfold hn
  by_cases h : j < hs.length
  · rw [if_neg (by omega)]; simp [List.getD, List.getElem?_append_left h]
  · by_cases e : j = hs.length
    · rw [if_pos e]; subst e; simp [List.getD]
    · rw [if_neg e]; simp [List.getD, List.getElem?_eq_none (show (hs ++ [y]).length ≤ j by simp; omega), List.getElem?_eq_none (show hs.length ≤ j by omega)]
theorem hp_snoc (hs : List (Int × Int)) (y : Int × Int) (j : Nat) : hp (hs ++ [y]) j = if j = hs.length then y.2 else hp hs j := by
  unfold hp
  by_cases h : j < hs.length
  · rw [if_neg (by omega)]; simp [List.getD, List.getElem?_append_left h]
  · by_cases e : j = hs.length
    · rw [if_pos e]; subst e; simp [List.getD]
    · rw [if_neg e]; simp [List.getD, List.getElem?_eq_none (show (hs ++ [y]).length ≤ j by simp; omega), List.getElem?_eq_none (show hs.length ≤ j by omega)]
theorem HC.set {W : World} {q : Nat} {hs : List (Int × Int)} (h : HC W q hs) (k : Nat) (hk : hs.length = k) (hk5 : k < 5) (n m : Int) : HC ((W.setCell ⟨q, k * 2, none⟩ (.int .i64 n)).setCell ⟨q, k * 2 + 1, none⟩ (.int .i64 m)) q (hs ++ [(n, m)]) := by
  obtain ⟨h1, h2, h3⟩ := h
  refine ⟨fun j hj => ?_, fun o => (World.frozen?_setCell _ _ _ _).trans ((World.frozen?_setCell _ _ _ _).trans (h2 o)), by simpa using h3⟩
  rw [hn_snoc, hp_snoc, hk]
  by_cases e : j = k
  · subst e
    rw [if_pos rfl, if_pos rfl]
    exact ⟨(set_off (.inr (by omega))).trans (set_at (h1 j hj).1), set_at ((set_off (.inr (by omega))).trans (h1 j hj).2)⟩
  · rw [if_neg e, if_neg e]
    exact ⟨(set_off (.inr (by omega))).trans ((set_off (.inr (by omega))).trans (h1 j hj).1), (set_off (.inr (by omega))).trans ((set_off (.inr (by omega))).trans (h1 j hj).2)⟩

/-- Ten stores. -/
def set10 (W : World) (q : Nat) (hs : List (Int × Int)) : World := ((((((((((W).setCell ⟨q, 0, none⟩ (.int .i64 (hn hs 0))).setCell ⟨q, 1, none⟩ (.int .i64 (hp hs 0))).setCell ⟨q, 2, none⟩ (.int .i64 (hn hs 1))).setCell ⟨q, 3, none⟩ (.int .i64 (hp hs 1))).setCell ⟨q, 4, none⟩ (.int .i64 (hn hs 2))).setCell ⟨q, 5, none⟩ (.int .i64 (hp hs 2))).setCell ⟨q, 6, none⟩ (.int .i64 (hn hs 3))).setCell ⟨q, 7, none⟩ (.int .i64 (hp hs 3))).setCell ⟨q, 8, none⟩ (.int .i64 (hn hs 4))).setCell ⟨q, 9, none⟩ (.int .i64 (hp hs 4))
theorem set10_cells {W : World} {q : Nat} {h0 hs : List (Int × Int)} (h : HC W q h0) : HC (set10 W q hs) q hs := by
  obtain ⟨h1, h2, h3⟩ := h
  have c0 := h1 0 (by decide)
  have c1 := h1 1 (by decide)
  have c2 := h1 2 (by decide)
  have c3 := h1 3 (by decide)
  have c4 := h1 4 (by decide)
  unfold set10
  refine ⟨fun j hj => ?_, fun o => ?_, by simpa using h3⟩
  · match j, hj with
    | 0, _ => simp [set_off10]; exact ⟨set_at (by simpa using c0.1), set_at (by simpa [set_off10] using c0.2)⟩
    | 1, _ => simp [set_off10]; exact ⟨set_at (by simpa [set_off10] using c1.1), set_at (by simpa [set_off10] using c1.2)⟩
    | 2, _ => simp [set_off10]; exact ⟨set_at (by simpa [set_off10] using c2.1), set_at (by simpa [set_off10] using c2.2)⟩
    | 3, _ => simp [set_off10]; exact ⟨set_at (by simpa [set_off10] using c3.1), set_at (by simpa [set_off10] using c3.2)⟩
    | 4, _ => simp [set_off10]; exact ⟨set_at (by simpa [set_off10] using c4.1), set_at (by simpa [set_off10] using c4.2)⟩
  · simp only [World.frozen?_setCell]; exact h2 o
theorem set10_chg {S : List Nat} {w W : World} {q : Nat} {hs : List (Int × Int)} (h : Chg S w W) (hq : q ∈ S ∨ w.heap.size ≤ q) : Chg S w (set10 W q hs) :=
  (((((((((h.setCell hq _).setCell hq _).setCell hq _).setCell hq _).setCell hq _).setCell hq _).setCell hq _).setCell hq _).setCell hq _).setCell hq _
theorem set10_at {A : Nat → Addr} {B q i : Nat} {W : World} {ev : Value} {k : Int} {hs : List (Int × Int)} (h : AtB A B W ev k i) (hq : q < B) : AtB A B (set10 W q hs) ev k i :=
  (((((((((h.set _ _ _ hq).set _ _ _ hq).set _ _ _ hq).set _ _ _ hq).set _ _ _ hq).set _ _ _ hq).set _ _ _ hq).set _ _ _ hq).set _ _ _ hq).set _ _ _ hq
theorem res10 {W : World} {q : Nat} {hs : List (Int × Int)} {ev : Value} {tmps : Array Value} (h : HC W q hs) (h2 : tmps.getD 2 undef = .pointer (some ⟨q, 0, none⟩)) (h3 : tmps.getD 3 undef = ev) : (results Tryd.f55 tmps).run Tryd.prog W = .ok (.tuple #[headV hs, ev]) W := by
  obtain ⟨h1, _, _⟩ := h
  obtain ⟨c0, d0⟩ := h1 0 (by decide)
  obtain ⟨c1, d1⟩ := h1 1 (by decide)
  obtain ⟨c2, d2⟩ := h1 2 (by decide)
  obtain ⟨c3, d3⟩ := h1 3 (by decide)
  obtain ⟨c4, d4⟩ := h1 4 (by decide)
  simp only [Nat.zero_mul, Nat.one_mul, Nat.zero_add, Nat.reduceMul, Nat.reduceAdd] at c0 c1 c2 c3 c4 d0 d1 d2 d3 d4
  rw [Array.getD_eq_getD_getElem?] at h2 h3
  simp [results, Tryd.results55, go_sem, headV, h2, h3, c0, c1, c2, c3, c4, d0, d1, d2, d3, d4]

def HeadP (A : Nat → Addr) (w : World) (p g : Nat) (e : Int) (R : Rd (List (Int × Int))) (r : Ending) (w' : World) : Prop :=
  match R with
  | .bad k => ∃ ev, r = .returned (.tuple #[headV [], ev]) ∧ AtB A w.heap.size w' ev k 0 ∧ Chg [p] w w'
  | .got hs ws => match checkR hs with
    | some f => ∃ ev, r = .returned (.tuple #[headV hs, ev]) ∧ AtB A w.heap.size w' ev f.2 (if f.1 = true then 1 else 0) ∧ Chg [p] w w'
    | none => r = .returned (.tuple #[headV hs, .nilIface]) ∧ RdM w' p g e ws ∧ Chg [p] w w'

def zero10 : Obj := .cells #[.int .i64 0, .int .i64 0, .int .i64 0, .int .i64 0, .int .i64 0, .int .i64 0, .int .i64 0, .int .i64 0, .int .i64 0, .int .i64 0] 96

set_option maxHeartbeats 4000000 in
theorem head_next (A : Nat → Addr) (p g : Nat) (e : Int) (ws : List Wd) (w : World) (h : RdM w p g e ws) (hS : SentsP A p w) (k : Int) (hR : nextR true e ws = .bad k) :
    Calls Tryd.prog 55 #[.pointer (some ⟨p, 0, none⟩)] w (HeadP A w p g e (.bad k)) := by
  have hpl : p < w.heap.size := h.2.2.2.1
  have HB0 := Lib.hid ((Below.refl w.heap.size w).alloc (Nat.le_refl _) zero10)
  have HN := Lib.hid (next_all A p g e true ws _ (h.chg HB0.out) (hS.chg (Chg.of_below HB0.out)))
  have HC0 := Lib.hid (HC.start w 96)
  rw [hR] at HN
  clear h hS hR
  unfold zero10 at *
  go_enter Tryd.func55, Tryd.ntmps55
  go_wp2_with fail
  refine HN.out.mono ?_
  rintro e1 w1 ⟨ev, rfl, hat, hb⟩
  have HAT := Lib.hid hat
  obtain ⟨b, hB, rfl, k0, k1⟩ := hat
  have HQ := Lib.hid (HC0.out.chg (S := []) (Chg.of_below hb) (by simp))
  obtain ⟨hc, hf, hs1⟩ := HQ.out
  have HB := Lib.hid hb
  have c0 := hc 0 (by decide)
  have c1 := hc 1 (by decide)
  have c2 := hc 2 (by decide)
  have c3 := hc 3 (by decide)
  have c4 := hc 4 (by decide)
  simp [hn, hp] at c0 c1 c2 c3 c4
  clear k0 k1 hb hc
  unfold wordZ
  go_wp2_with fail
  exact bodyPost_ret (v := .tuple #[headV [], .iface 73 (.pointer (some ⟨b, 0, none⟩))]) (res10 (((set10_cells HQ.out).chg (S := []) (Chg.of_below ((Below.refl _ (set10 w1 w.heap.size [])).alloc (Nat.le_refl _) _)) (by simp))) rfl rfl) rfl
    ⟨_, rfl, ((set10_at (hs := []) HAT.out (by simp)).keep ((Below.refl _ _).alloc (Nat.le_refl _) _)).mono (by simp), (set10_chg (hs := []) (Chg.of_below (HB0.out.trans (HB.out.mono (by simp)))) (.inr (Nat.le_refl _))).alloc _⟩
end Go.Proofs.YtfkodpglgeghlaaDoor
