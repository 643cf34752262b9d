/- Contracts of the document's own graph: Len, lit, fail, New, Input. Conditions: the graph lies in memory as 'RgM' says; the numbers are 64-bit ints. -/
import Derived.Test.YtmgepagdkfghlaaDoorPrs
namespace Go.Proofs.YtmgepagdkfghlaaDoor
open Go.RowKit

/-- What a call on the document's graph leaves. -/
def RgPost (w : World) (v : Value) (S : List Nat) (r : Gr × Int) (e : Ending) (w' : World) : Prop :=
  e = .returned (.int .i64 r.2) ∧ (∃ S', RgM w' v S' r.1 ∧ Fresh w S S') ∧ Chg S w w'
theorem RgPost.of {w w' : World} {v : Value} {S : List Nat} {g : Gr} {z : Int} (q : Nat) (h : RgM w v S g) (hw : w' = w.drewN q) : RgPost w v S (g, z) (.returned (.int .i64 z)) w' := by
  subst hw
  exact ⟨rfl, ⟨S, h.below (below_drewN (Below.refl _ _) q), Fresh.refl _ _⟩, chg_drewN _ _⟩

set_option maxHeartbeats 400000 in
theorem rlen_cells (p gn ga co : Nat) (ao : Option Addr) (w : World) (c0 : w.cell? ⟨p, 0, none⟩ = some (.int .i64 (gn : Int))) (c1 : w.cell? ⟨p, 1, none⟩ = some (.slice ao ga co)) (hl : gn + ga ≤ 8000) :
    Calls Tryd.prog 54 #[.pointer (some ⟨p, 0, none⟩)] w fun e w' => e = .returned (.int .i64 ((gn + ga : Nat) : Int)) ∧ ∃ n, w' = w.drewN n := by
  go_enter Tryd.func54, Tryd.ntmps54
  go_wp2
  go_quiet (fail)
  go_wp2
  go_ret
  exact ⟨ret_int (by first | rfl | (simp; done) | omega), _, rfl⟩
theorem rlen_any {v : Value} {S : List Nat} {g : Gr} (w : World) (h : RgM w v S g) :
    Calls Tryd.prog 54 #[v] w fun e w' => e = .returned (.int .i64 (g.len : Int)) ∧ ∃ n, w' = w.drewN n := by
  obtain ⟨p, u, h⟩ := h
  obtain rfl := h.val
  obtain ⟨ao, co, rfl, hc1, hc2⟩ := row_shape h.row
  exact rlen_cells p g.n g.ands.length co ao w h.c0 h.c1 h.len

set_option maxHeartbeats 400000 in
theorem rlit_any {v : Value} {S : List Nat} {g : Gr} (w : World) (h : RgM w v S g) (l : Int) (hl1 : -9223372036854775808 ≤ l) (hl2 : l ≤ 9223372036854775807) :
    Calls Tryd.prog 53 #[v, .int .i64 l] w fun e w' => e = .returned (.bool (g.isB l)) ∧ ∃ n, w' = w.drewN n := by
  have HL := Lib.hid (rlen_any w h)
  have HB : Hid (g.isB l = (decide (0 ≤ l) && decide (l / 2 ≤ (g.len : Int)))) := rfl
  have hlen : g.len ≤ 8000 := by obtain ⟨p, u, h⟩ := h; exact h.len
  obtain ⟨p, rfl⟩ : ∃ p, v = .pointer p := by obtain ⟨p, u, h⟩ := h; exact ⟨_, h.val⟩
  clear h
  generalize g.isB l = r at *
  by_cases h0 : 0 ≤ l
  · go_enter Tryd.func53, Tryd.ntmps53
    go_wp2_with fail
    refine HL.out.mono ?_
    rintro e w' ⟨rfl, q, rfl⟩
    go_wp2_with fail
    go_ret
    exact ⟨ret_bool (by rw [HB.out]; simp [h0]), q, rfl⟩
  · go_enter Tryd.func53, Tryd.ntmps53
    go_wp2_with fail
    go_ret
    exact ⟨ret_bool (by rw [HB.out]; simp; omega), 0, rfl⟩

theorem RgAt.fail {w : World} {v : Value} {S : List Nat} {g : Gr} {p : Nat} {u : Value} (h : RgAt w v S g p u) (c : Int) (hc : badC c) :
    RgAt (w.setCell ⟨p, 2, none⟩ (.int .i64 c)) v S ⟨g.n, g.ands, c⟩ p u := by
  have ho : ∀ o, o ≠ 2 → (w.setCell ⟨p, 2, none⟩ (.int .i64 c)).cell? ⟨p, o, none⟩ = w.cell? ⟨p, o, none⟩ := fun o hne => World.cell?_setCell_other (w := w) (h := fun hh => hne (by injection hh with _ e; exact e.symm)) ..
  exact { val := h.val, foot := h.foot
          c0 := (ho 0 (by decide)).trans h.c0
          c1 := (ho 1 (by decide)).trans h.c1
          c2 := World.cell?_setCell_same (w := w) (h := h.c2) ..
          fr := fun i => (World.frozen?_setCell _ _ _ _).trans (h.fr i)
          row := own_chg (S := [p]) h.row ((Chg.refl [p] w).setCell (.inl (by simp)) _) (fun k hk => by simp; intro e; exact h.pu (by rw [hk, e]))
          pu := h.pu, len := h.len, bad := hc }

set_option maxHeartbeats 1000000 in
theorem rfail_any {v : Value} {S : List Nat} {g : Gr} (w : World) (h : RgM w v S g) (c : Int) (hc : c = 102 ∨ c = 104) :
    Calls Tryd.prog 52 #[v, .int .i64 c] w fun e w' => e = .returned (.int .i64 0) ∧ RgM w' v S (g.fail c) ∧ Chg S w w' := by
  obtain ⟨p, u, h⟩ := h
  have HA := Lib.hid h
  obtain rfl := h.val
  have c2 := h.c2
  have f2 := h.fr 2
  have HS := Lib.hid (show p ∈ S by rw [h.foot]; simp)
  have HF := Lib.hid (h.fail c (.inr hc))
  clear h
  by_cases h0 : g.bad = 0
  · have HE := Lib.hid (show g.fail c = ⟨g.n, g.ands, c⟩ by unfold Gr.fail; rw [if_pos h0])
    rw [h0] at c2
    clear HA h0 hc
    go_enter Tryd.func52, Tryd.ntmps52
    go_wp2
    go_ret
    exact ⟨rfl, by rw [HE.out]; exact ⟨p, u, HF.out⟩, (Chg.refl _ _).setCell (.inl HS.out) _⟩
  · have HE := Lib.hid (show g.fail c = g by unfold Gr.fail; rw [if_neg h0])
    have h0b : (g.bad == 0) = false := by simp [h0]
    clear HF h0 hc
    generalize g.bad = gb at *
    go_enter Tryd.func52, Tryd.ntmps52
    go_wp2
    go_ret
    exact ⟨rfl, by rw [HE.out]; exact ⟨p, u, HA.out⟩, Chg.refl _ _⟩

set_option maxHeartbeats 1000000 in
theorem rnew_any (n : Int) (w : World) (h1 : -9223372036854775808 ≤ n) (h2 : n ≤ 9223372036854775807) :
    Calls Tryd.prog 39 #[.int .i64 n] w fun e w' => (∃ v S, e = .returned v ∧ RgM w' v S (newG n) ∧ ∀ i ∈ S, w.heap.size ≤ i) ∧ Below w.heap.size w w' := by
  have HG : Hid (∀ k : Nat, (newG n).n = k → RgM (w.alloc (.cells #[.int .i64 (k : Int), .slice none 0 0, .int .i64 0] 78)) (.pointer (some ⟨w.heap.size, 0, none⟩)) [w.heap.size] (newG n)) := fun k hk => by
    have hc : ∀ o u, #[Value.int .i64 (k : Int), .slice none 0 0, .int .i64 0][o]? = some u → (w.alloc (.cells #[.int .i64 (k : Int), .slice none 0 0, .int .i64 0] 78)).cell? ⟨w.heap.size, o, none⟩ = some u := fun o u ho => by
      rw [cell_of_row _ _ o _ 78 (0, 0) (heap_alloc_new _ _)]
      exact ho
    exact ⟨w.heap.size, .slice none 0 0,
      { val := rfl, foot := rfl
        c0 := by rw [hk]; exact hc 0 _ rfl
        c1 := hc 1 _ rfl, c2 := hc 2 _ rfl
        fr := fun i => by
          have := heap_alloc_new w (.cells #[.int .i64 (k : Int), .slice none 0 0, .int .i64 0] 78)
          simp only [World.frozen?, this]
          simp
        row := ⟨rfl, .inl ⟨rfl, rfl⟩⟩
        pu := by simp [Value.ownBlock]
        len := by simp only [newG, Gr.len, List.length_nil]; omega
        bad := .inl rfl }⟩
  have HB : Hid (∀ k : Nat, Below w.heap.size w (w.alloc (.cells #[.int .i64 (k : Int), .slice none 0 0, .int .i64 0] 78))) := fun k => (Below.refl _ w).alloc (Nat.le_refl _) _
  rcases (show n < 0 ∨ (0 ≤ n ∧ n ≤ 8000) ∨ 8000 < n by omega) with h | h | h
  · have HK := Lib.hid (HG.out 0 (by simp only [newG]; omega))
    clear HG
    go_enter Tryd.func39, Tryd.ntmps39
    go_wp2
    go_ret
    exact ⟨⟨_, _, rfl, HK.out, by simp⟩, HB.out 0⟩
  · obtain ⟨k, rfl⟩ := Int.eq_ofNat_of_zero_le h.1
    have HK := Lib.hid (HG.out k (by simp only [newG]; omega))
    clear HG
    obtain ⟨_, h⟩ := h
    go_enter Tryd.func39, Tryd.ntmps39
    go_wp2
    go_ret
    exact ⟨⟨_, _, rfl, HK.out, by simp⟩, HB.out k⟩
  · have HK := Lib.hid (HG.out 8000 (by simp only [newG]; omega))
    clear HG
    go_enter Tryd.func39, Tryd.ntmps39
    go_wp2
    go_ret
    exact ⟨⟨_, _, rfl, HK.out, by simp⟩, HB.out 8000⟩

set_option maxRecDepth 8000 in
set_option maxHeartbeats 2000000 in
theorem rin_any {v : Value} {S : List Nat} {g : Gr} (w : World) (h : RgM w v S g) (i : Int) (hi1 : -9223372036854775808 ≤ i) (hi2 : i ≤ 9223372036854775807) :
    Calls Tryd.prog 40 #[v, .int .i64 i] w (RgPost w v S (inG g i)) := by
  have HF := Lib.hid (rfail_any w h 104 (.inr rfl))
  have HH := Lib.hid h
  obtain ⟨p, u, h⟩ := h
  have hn : g.n ≤ 8000 := by have := h.len; unfold Gr.len at this; omega
  obtain rfl := h.val
  have c0 := h.c0
  clear h
  by_cases h0 : i < 0
  · have HR : Hid (inG g i = (g.fail 104, 0)) := by unfold Hid inG; rw [if_neg (by omega)]
    generalize inG g i = R at *
    generalize g.n = gn at *
    go_enter Tryd.func40, Tryd.ntmps40
    go_wp2_with fail
    refine HF.out.mono ?_
    rintro e w' ⟨rfl, hG, hC⟩
    have HG := Lib.hid (And.intro hG hC)
    clear hG hC
    go_wp2_with fail
    go_ret
    rw [HR.out]
    exact ⟨rfl, ⟨S, HG.out.1, Fresh.refl _ _⟩, HG.out.2⟩
  · by_cases h1 : i < (g.n : Int)
    · have HR : Hid (inG g i = (g, 2 * (i + 1))) := by unfold Hid inG; rw [if_pos (by omega)]
      have h1b : ¬ (g.n : Int) ≤ i := by omega
      generalize inG g i = R at *
      generalize g.n = gn at *
      go_enter Tryd.func40, Tryd.ntmps40
      go_wp2_with fail
      go_ret
      rw [HR.out]
      exact ⟨rfl, ⟨S, HH.out, Fresh.refl _ _⟩, Chg.refl _ _⟩
    · have HR : Hid (inG g i = (g.fail 104, 0)) := by unfold Hid inG; rw [if_neg (by omega)]
      have h1b : (g.n : Int) ≤ i := by omega
      generalize inG g i = R at *
      generalize g.n = gn at *
      go_enter Tryd.func40, Tryd.ntmps40
      go_wp2_with fail
      refine HF.out.mono ?_
      rintro e w' ⟨rfl, hG, hC⟩
      have HG := Lib.hid (And.intro hG hC)
      clear hG hC
      go_wp2_with fail
      go_ret
      rw [HR.out]
      exact ⟨rfl, ⟨S, HG.out.1, Fresh.refl _ _⟩, HG.out.2⟩
end Go.Proofs.YtmgepagdkfghlaaDoor
