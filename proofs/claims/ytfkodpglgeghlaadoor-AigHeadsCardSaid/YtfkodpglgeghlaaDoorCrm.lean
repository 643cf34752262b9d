/- A circuit's three cells in memory, the head's numbers, what the reader's circuit answers; what stays as it was behind an append. Holds for every world; no conditions beyond those typed. -/
import Derived.Test.YtfkodpglgeghlaaDoorHdf
namespace Go.Proofs.YtfkodpglgeghlaaDoor
open Go.RowKit

/-- Three cells of a circuit at block q. -/
def CB (W : World) (q : Nat) (n : Int) (u v : Value) : Prop := W.cell? ⟨q, 0, none⟩ = some (.int .i64 n) ∧ W.cell? ⟨q, 1, none⟩ = some u ∧ W.cell? ⟨q, 2, none⟩ = some v ∧ (∀ o, W.frozen? ⟨q, o, none⟩ = false) ∧ q < W.heap.size
theorem CB.chg {W W' : World} {q : Nat} {n : Int} {u v : Value} {S : List Nat} (h : CB W q n u v) (hc : Chg S W W') (hq : q ∉ S) : CB W' q n u v :=
  ⟨(hc.cell h.2.2.2.2 hq).trans h.1, (hc.cell h.2.2.2.2 hq).trans h.2.1, (hc.cell h.2.2.2.2 hq).trans h.2.2.1, fun o => (hc.frz h.2.2.2.2 hq).trans (h.2.2.2.1 o), Nat.lt_of_lt_of_le h.2.2.2.2 hc.size⟩
theorem CB.start (w : World) (n : Int) (u v : Value) (T : TypeId) : CB (w.alloc (.cells #[.int .i64 n, u, v] T)) w.heap.size n u v := by
  refine ⟨?_, ?_, ?_, fun o => World.frozen?_alloc_at _ _ _ _ (by simp), by simp⟩
  · rw [World.cell?_alloc_at _ _ _ _ (by simp)]; rfl
  · rw [World.cell?_alloc_at _ _ _ _ (by simp)]; rfl
  · rw [World.cell?_alloc_at _ _ _ _ (by simp)]; rfl
theorem CB.set1 {W : World} {q : Nat} {n : Int} {u v : Value} (h : CB W q n u v) (u' : Value) : CB (W.setCell ⟨q, 1, none⟩ u') q n u' v :=
  ⟨(set_off (.inr (by decide))).trans h.1, set_at h.2.1, (set_off (.inr (by decide))).trans h.2.2.1, fun o => (World.frozen?_setCell _ _ _ _).trans (h.2.2.2.1 o), by simpa using h.2.2.2.2⟩
theorem CB.set2 {W : World} {q : Nat} {n : Int} {u v : Value} (h : CB W q n u v) (v' : Value) : CB (W.setCell ⟨q, 2, none⟩ v') q n u v' :=
  ⟨(set_off (.inr (by decide))).trans h.1, (set_off (.inr (by decide))).trans h.2.1, set_at h.2.2.1, fun o => (World.frozen?_setCell _ _ _ _).trans (h.2.2.2.1 o), by simpa using h.2.2.2.2⟩
def set3 (W : World) (q : Nat) (x y z : Value) : World := ((W.setCell ⟨q, 0, none⟩ x).setCell ⟨q, 1, none⟩ y).setCell ⟨q, 2, none⟩ z
theorem CB.set3 {W : World} {q : Nat} {n : Int} {u v : Value} (h : CB W q n u v) (m : Int) (y z : Value) : CB (set3 W q (.int .i64 m) y z) q m y z := by
  obtain ⟨h0, h1, h2, h3, h4⟩ := h
  refine ⟨?_, ?_, ?_, fun o => ?_, ?_⟩
  · exact (set_off (.inr (by decide))).trans ((set_off (.inr (by decide))).trans (set_at h0))
  · exact (set_off (.inr (by decide))).trans (set_at ((set_off (.inr (by decide))).trans h1))
  · exact set_at ((set_off (.inr (by decide))).trans ((set_off (.inr (by decide))).trans h2))
  · exact (World.frozen?_setCell _ _ _ _).trans ((World.frozen?_setCell _ _ _ _).trans ((World.frozen?_setCell _ _ _ _).trans (h3 o)))
  · unfold Go.Proofs.YtfkodpglgeghlaaDoor.set3; simpa using h4
theorem set3_chg {S : List Nat} {w W : World} {q : Nat} {x y z : Value} (h : Chg S w W) (hq : q ∈ S ∨ w.heap.size ≤ q) : Chg S w (set3 W q x y z) := ((h.setCell hq _).setCell hq _).setCell hq _
theorem set3_at {A : Nat → Addr} {B q i : Nat} {W : World} {ev : Value} {k : Int} {x y z : Value} (h : AtB A B W ev k i) (hq : q < B) : AtB A B (set3 W q x y z) ev k i := ((h.set _ _ _ hq).set _ _ _ hq).set _ _ _ hq

theorem set3_own {W : World} {B q : Nat} {e : TypeId} {size : Nat} {v : Value} {n : Nat} {xs : List Value} {x y z : Value} (h : W.ownsRow B e size v n xs) (hq : q < B) : (set3 W q x y z).ownsRow B e size v n xs :=
  ownsRow_setCell_below (ownsRow_setCell_below (ownsRow_setCell_below h (a := ⟨q, 0, none⟩) hq x) (a := ⟨q, 1, none⟩) hq y) (a := ⟨q, 2, none⟩) hq z

/-- The four numbers of a head that are asked for. -/
def HN (W : World) (q : Nat) (m i o a : Int) : Prop := W.cell? ⟨q, 0, none⟩ = some (.int .i64 m) ∧ W.cell? ⟨q, 2, none⟩ = some (.int .i64 i) ∧ W.cell? ⟨q, 6, none⟩ = some (.int .i64 o) ∧ W.cell? ⟨q, 8, none⟩ = some (.int .i64 a) ∧ q < W.heap.size
theorem HN.chg {W W' : World} {q : Nat} {m i o a : Int} {S : List Nat} (h : HN W q m i o a) (hc : Chg S W W') (hq : q ∉ S) : HN W' q m i o a :=
  ⟨(hc.cell h.2.2.2.2 hq).trans h.1, (hc.cell h.2.2.2.2 hq).trans h.2.1, (hc.cell h.2.2.2.2 hq).trans h.2.2.1, (hc.cell h.2.2.2.2 hq).trans h.2.2.2.1, Nat.lt_of_lt_of_le h.2.2.2.2 hc.size⟩
theorem HN.start (w : World) (hs : List (Int × Int)) (T : TypeId) : HN (w.alloc (.cells #[.int .i64 (hn hs 0), .int .i64 (hp hs 0), .int .i64 (hn hs 1), .int .i64 (hp hs 1), .int .i64 (hn hs 2), .int .i64 (hp hs 2), .int .i64 (hn hs 3), .int .i64 (hp hs 3), .int .i64 (hn hs 4), .int .i64 (hp hs 4)] T)) w.heap.size (hn hs 0) (hn hs 1) (hn hs 3) (hn hs 4) := by
  refine ⟨?_, ?_, ?_, ?_, by simp⟩
  · rw [World.cell?_alloc_at _ _ _ _ (by simp)]; rfl
  · rw [World.cell?_alloc_at _ _ _ _ (by simp)]; rfl
  · rw [World.cell?_alloc_at _ _ _ _ (by simp)]; rfl
  · rw [World.cell?_alloc_at _ _ _ _ (by simp)]; rfl

/-- What lies below an appended row stays. -/
theorem Chg.low {S : List Nat} {w0 a b : World} {B : Nat} (h : Chg S w0 a) (hb : Below B a b) (hB : w0.heap.size ≤ B) : Chg S w0 b :=
  ⟨hb.os.trans h.os, hb.tape.trans h.tape, hb.output.trans h.output, Nat.le_trans h.size hb.size, fun i hi hn => (hb.block i (by omega)).trans (h.block i hi hn)⟩
theorem chg_up {a b : World} {B : Nat} (hb : Below B a b) : Chg ((List.range (a.heap.size - B)).map (· + B)) a b :=
  ⟨hb.os, hb.tape, hb.output, hb.size, fun i hi hn => by
    rcases Nat.lt_or_ge i B with h | h
    · exact hb.block i h
    · exact absurd (List.mem_map.2 ⟨i - B, List.mem_range.2 (by omega), by omega⟩) hn⟩
theorem up_not {a : World} {B q : Nat} (h : q < B) : q ∉ (List.range (a.heap.size - B)).map (· + B) := by
  intro hm
  obtain ⟨x, _, rfl⟩ := List.mem_map.1 hm
  omega
theorem RdM.low {a b : World} {p g B : Nat} {e : Int} {ws : List Wd} (h : RdM a p g e ws) (hb : Below B a b) (hp : p < B) (hg : g < B) : RdM b p g e ws := h.keep (chg_up hb) (up_not hp) (up_not hg)
theorem CB.low {a b : World} {q B : Nat} {n : Int} {u v : Value} (h : CB a q n u v) (hb : Below B a b) (hq : q < B) : CB b q n u v := h.chg (chg_up hb) (up_not hq)
theorem HN.low {a b : World} {q B : Nat} {m i o z : Int} (h : HN a q m i o z) (hb : Below B a b) (hq : q < B) : HN b q m i o z := h.chg (chg_up hb) (up_not hq)

theorem own_low {a b : World} {B B' : Nat} {e : TypeId} {size : Nat} {v : Value} {n : Nat} {xs : List Value} (h : a.ownsRow B' e size v n xs) (hb : Below B a b) (hv : ∀ k, v.ownBlock = some k → k < B) : b.ownsRow B' e size v n xs := own_chg h (chg_up hb) (fun k hk => up_not (hv k hk))
/-- The error as it is told. -/
def OutF (A : Nat → Addr) (B : Nat) (w : World) (ev : Value) : Option (Bool × Int) → Prop
  | none => ev = .nilIface
  | some f => AtB A B w ev f.2 (if f.1 = true then 1 else 0)
def CircP (A : Nat → Addr) (w : World) (p : Nat) (R : Res) (r : Ending) (w' : World) : Prop :=
  ∃ u v ev, r = .returned (.tuple #[circV R.1.1 u v, ev]) ∧ w'.ownsRow w.heap.size 48 2 u R.1.2.1.length (R.1.2.1.flatMap pcells) ∧ w'.ownsRow w.heap.size 3 1 v R.1.2.2.length (R.1.2.2.map (Value.int .i64)) ∧ OutF A w.heap.size w' ev R.2 ∧ Chg [p] w w'
theorem circ_bad {A : Nat → Addr} {w w' : World} {p B : Nat} {f : Bool × Int} {ev : Value} (h : AtB A B w' ev f.2 (if f.1 = true then 1 else 0)) (hB : w.heap.size ≤ B) (hc : Chg [p] w w') : CircP A w p (badC f) (.returned (.tuple #[circV 0 (.slice none 0 0) (.slice none 0 0), ev])) w' :=
  ⟨_, _, ev, rfl, World.ownsRow_nil _ _ _ _, World.ownsRow_nil _ _ _ _, h.mono hB, hc⟩
theorem res3 {W : World} {q : Nat} {n : Int} {u v ev : Value} {tmps : Array Value} (h : CB W q n u v) (h2 : tmps.getD 2 undef = .pointer (some ⟨q, 0, none⟩)) (h3 : tmps.getD 3 undef = ev) : (results Tryd.f40 tmps).run Tryd.prog W = .ok (.tuple #[circV n u v, ev]) W := by
  obtain ⟨c0, c1, c2, _, _⟩ := h
  rw [Array.getD_eq_getD_getElem?] at h2 h3
  simp [results, Tryd.results40, go_sem, circV, h2, h3, c0, c1, c2]

def circ0 : Obj := .cells #[.int .i64 0, .slice none 0 0, .slice none 0 0] 27

set_option maxHeartbeats 4000000 in
theorem circ_head {A : Nat → Addr} {p g : Nat} {e : Int} {ws : List Wd} {w : World} (h : RdM w p g e ws) (hS : SentsP A p w) (hok : WOk ws) (f : Bool × Int) (hf : (headR e ws = .bad f.2 ∧ f.1 = false) ∨ ∃ hs r, headR e ws = .got hs r ∧ checkR hs = some f) :
    Calls Tryd.prog 40 #[.pointer (some ⟨p, 0, none⟩)] w (CircP A w p (badC f)) := by
  have hpl : p < w.heap.size := h.2.2.2.1
  have HB0 := Lib.hid ((Below.refl w.heap.size w).alloc (Nat.le_refl _) circ0)
  have HC0 := Lib.hid (CB.start w 0 (.slice none 0 0) (.slice none 0 0) 27)
  have HH : Hid (Calls Tryd.prog 55 #[.pointer (some ⟨p, 0, none⟩)] (w.alloc circ0) fun r w' => ∃ hs ev, r = .returned (.tuple #[headV hs, ev]) ∧ AtB A (w.alloc circ0).heap.size w' ev f.2 (if f.1 = true then 1 else 0) ∧ Chg [p] (w.alloc circ0) w') := by
    have h1 := head_any A p g e ws _ (h.chg HB0.out) (hS.chg (Chg.of_below HB0.out)) hok
    refine h1.mono fun r w' hr => ?_
    rcases hf with ⟨e1, e2⟩ | ⟨hs, r', e1, e2⟩
    · rw [e1] at hr
      obtain ⟨ev, k1, k2, k3⟩ := hr
      exact ⟨[], ev, k1, by rw [e2]; exact k2, k3⟩
    · rw [e1] at hr
      unfold HeadP at hr
      simp only [e2] at hr
      obtain ⟨ev, k1, k2, k3⟩ := hr
      exact ⟨hs, ev, k1, k2, k3⟩
  clear h hS hok hf
  unfold circ0 at *
  go_enter Tryd.func40, Tryd.ntmps40
  go_wp2_with fail
  refine HH.out.mono ?_
  rintro e1 w1 ⟨hs, ev, rfl, hat, hch⟩
  have HAT := Lib.hid hat
  obtain ⟨b, hB, rfl, k0, k1⟩ := hat
  have hsz := hch.size
  simp at hsz
  have HQ := Lib.hid (HC0.out.chg hch (by simp; omega))
  have HCW := Lib.hid (Chg.old HB0.out hch)
  obtain ⟨c0, c1, c2, cf, cs⟩ := HQ.out
  clear k0 k1 hch
  unfold headV
  go_wp2_with fail
  exact bodyPost_ret (v := .tuple #[circV 0 (.slice none 0 0) (.slice none 0 0), .iface 73 (.pointer (some ⟨b, 0, none⟩))]) (res3 ((HQ.out.set3 0 (.slice none 0 0) (.slice none 0 0)).chg (S := []) (Chg.of_below ((Below.refl _ _).alloc (Nat.le_refl _) _)) (by simp)) rfl rfl) rfl
    (circ_bad ((set3_at (x := .int .i64 0) (y := .slice none 0 0) (z := .slice none 0 0) HAT.out (by simp)).keep ((Below.refl _ _).alloc (Nat.le_refl _) _)) (by simp) ((set3_chg (x := .int .i64 0) (y := .slice none 0 0) (z := .slice none 0 0) HCW.out (.inr (Nat.le_refl _))).alloc _))
end Go.Proofs.YtfkodpglgeghlaaDoor
