/- Contracts of graph's small functions: is, literal, Not, Len, Inputs, Err, fail, New. Conditions: the numbers are small; the graph lies in memory as 'GrM' says. -/
import Derived.Test.YtdmhjpofinnpmaaDoorGrM
import Derived.Test.YtdmhjpofinnpmaaDoorChecked
import Derived.IntWalk
import Derived.Deep.QuietTactic
import Derived.BigQuiet
import Derived.RegionTactic
import Derived.Carry
namespace Go.Proofs.YtdmhjpofinnpmaaDoor
open Go.RowKit Go.Maps

theorem row_shape {w : World} {B : Nat} {e : TypeId} {size : Nat} {v : Value} {n : Nat} {xs : List Value} (h : w.ownsRow B e size v n xs) : ∃ a cap, v = .slice a n cap ∧ n ≤ cap ∧ cap ≤ maxLen := by
  rcases h.2 with ⟨e0, e1⟩ | ⟨g, cap, cur, hv, hb, hg, h1, h2, _⟩
  · exact ⟨none, 0, by rw [e0, e1], by omega, by unfold maxLen; omega⟩
  · exact ⟨_, cap, hv, h1, h2⟩

set_option maxHeartbeats 400000 in
theorem gis_any (l k : Int) (w : World) (h1 : -9223372036854775808 ≤ l) (h2 : l ≤ 9223372036854775807) :
    Calls Tryd.prog 49 #[.int .i64 l, .int .i64 k] w fun e w' => e = .returned (.bool (decide (0 ≤ l) && decide (l / 2 ≤ k))) ∧ w = w' := by
  by_cases h0 : 0 ≤ l
  · have hd : decide (0 ≤ l) = true := decide_eq_true h0
    go_enter Tryd.func49, Tryd.ntmps49
    go_wp2
    go_ret
    exact ⟨ret_bool (by simp [h0]), rfl⟩
  · have hd : decide (0 ≤ l) = false := decide_eq_false h0
    go_enter Tryd.func49, Tryd.ntmps49
    go_wp2
    go_ret
    exact ⟨ret_bool (by simp), rfl⟩

set_option maxHeartbeats 400000 in
theorem glit_any (n : Int) (w : World) (h1 : 0 ≤ n) (h2 : n ≤ 1000000) :
    Calls Tryd.prog 57 #[.int .i64 n] w fun e w' => e = .returned (.int .i64 (2 * n)) ∧ w = w' := by
  go_enter Tryd.func57, Tryd.ntmps57
  go_wp2
  go_ret
  exact ⟨rfl, rfl⟩

set_option maxHeartbeats 400000 in
theorem gnot_any (l : Int) (w : World) (h1 : 0 ≤ l) (h2 : l < 4611686018427387904) :
    Calls Tryd.prog 52 #[.int .i64 l] w fun e w' => e = .returned (.int .i64 (notI l)) ∧ w = w' := by
  have HX := Lib.hid (xor_oneI l h1 h2)
  go_enter Tryd.func52, Tryd.ntmps52
  go_wp2
  go_ret
  exact ⟨ret_int HX.out, rfl⟩

set_option maxHeartbeats 400000 in
theorem glen_cells (p gn ga co : Nat) (ao : Option Addr) (w : World) (c0 : w.cell? ⟨p, 0, none⟩ = some (.int .i64 (gn : Int))) (c1 : w.cell? ⟨p, 1, none⟩ = some (.slice ao ga co)) (hl : gn + ga ≤ 8000) :
    Calls Tryd.prog 50 #[.pointer (some ⟨p, 0, none⟩)] w fun e w' => e = .returned (.int .i64 ((gn + ga : Nat) : Int)) ∧ ∃ n, w' = w.drewN n := by
  go_enter Tryd.func50, Tryd.ntmps50
  go_wp2
  go_quiet (fail)
  go_wp2
  go_ret
  exact ⟨ret_int (by first | rfl | (simp; done) | omega), _, rfl⟩
theorem glen_any {A : Nat → Addr} {v : Value} {S : List Nat} {g : Gr} (w : World) (h : GrM w A v S g) :
    Calls Tryd.prog 50 #[v] w fun e w' => e = .returned (.int .i64 (g.len : Int)) ∧ ∃ n, w' = w.drewN n := by
  obtain ⟨p, m, u, N, D, h⟩ := h
  obtain rfl := h.val
  obtain ⟨ao, co, rfl, hc1, hc2⟩ := row_shape h.row
  exact glen_cells p g.n g.ands.length co ao w h.c0 h.c1 h.len

set_option maxHeartbeats 400000 in
theorem gerr_any {A : Nat → Addr} {v : Value} {S : List Nat} {g : Gr} (w : World) (h : GrM w A v S g) :
    Calls Tryd.prog 32 #[v] w fun e w' => e = .returned (errC A g.bad) ∧ w = w' := by
  obtain ⟨p, m, u, N, D, h⟩ := h
  obtain rfl := h.val
  have c3 := h.c3
  have hb := h.bad
  clear h
  rcases hb with hb | hb | hb
  all_goals
    rw [hb] at c3 ⊢
    clear hb
    unfold errC sentV at *
    simp only [reduceIte, Int.reduceSub, Int.reduceToNat, Int.reduceEq] at c3 ⊢
    go_enter Tryd.func32, Tryd.ntmps32
    go_wp2
    go_ret
    exact ⟨rfl, rfl⟩

theorem errC_lim (A : Nat → Addr) : errC A 102 = .iface 77 (.pointer (some (A 1))) := rfl
theorem errC_ran (A : Nat → Addr) : errC A 104 = .iface 77 (.pointer (some (A 3))) := rfl
theorem GrAt.fail {w : World} {A : Nat → Addr} {v : Value} {S : List Nat} {g : Gr} {p m : Nat} {u : Value} {N : Nat} {D : DataW Unit} (h : GrAt w A v S g p m u N D) (c : Int) (hc : badC c) :
    GrAt (w.setCell ⟨p, 3, none⟩ (errC A c)) A v S ⟨g.n, g.ands, c⟩ p m u N D := by
  have ho : ∀ o, o ≠ 3 → (w.setCell ⟨p, 3, none⟩ (errC A c)).cell? ⟨p, o, none⟩ = w.cell? ⟨p, o, none⟩ := fun o hne => World.cell?_setCell_other (w := w) (h := fun hh => hne (by injection hh with _ e; exact e.symm)) ..
  exact { val := h.val, foot := h.foot
          c0 := (ho 0 (by decide)).trans h.c0
          c1 := (ho 1 (by decide)).trans h.c1
          c2 := (ho 2 (by decide)).trans h.c2
          c3 := World.cell?_setCell_same (w := w) (h := h.c3) ..
          fr := fun i => (World.frozen?_setCell _ _ _ _).trans (h.fr i)
          row := own_chg (S := [p]) h.row ((Chg.refl [p] w).setCell (.inl (by simp)) _) (fun k hk => by simp; intro e; exact h.pu (by rw [hk, e]))
          map := by
            obtain ⟨es, clock, h1, h2⟩ := h.map
            exact ⟨es, clock, (Below.heap_setCell _ _ _ _ (fun e => h.pm e.symm)).trans h1, h2⟩
          pm := h.pm, pu := h.pu, mu := h.mu, nle := h.nle, mapg := h.mapg.bad c, len := h.len, bad := hc }

set_option maxHeartbeats 1000000 in
theorem gfail_any {A : Nat → Addr} {v : Value} {S : List Nat} {g : Gr} (w : World) (h : GrM w A v S g) (c : Int) (hc : c = 102 ∨ c = 104) :
    Calls Tryd.prog 51 #[v, errC A c] w fun e w' => e = .returned (.int .i64 0) ∧ GrM w' A v S (g.fail c) ∧ Chg S w w' := by
  obtain ⟨p, m, u, N, D, h⟩ := h
  have HA := Lib.hid h
  obtain rfl := h.val
  have c3 := h.c3
  have f3 := h.fr 3
  have hb := h.bad
  have HS := Lib.hid (show p ∈ S by rw [h.foot]; simp)
  have HF := Lib.hid (h.fail c (.inr hc))
  clear h
  by_cases h0 : g.bad = 0
  · have HG := Lib.hid HF.out
    have HE := Lib.hid (show g.fail c = ⟨g.n, g.ands, c⟩ by unfold Gr.fail; rw [if_pos h0])
    rw [h0] at c3
    clear hb HF HA h0
    rcases hc with rfl | rfl
    all_goals
      first | rw [errC_lim] at HG ⊢ | rw [errC_ran] at HG ⊢
      unfold errC at c3
      simp only [reduceIte] at c3
      go_enter Tryd.func51, Tryd.ntmps51
      go_wp2
      go_ret
      exact ⟨rfl, by rw [HE.out]; exact ⟨p, m, u, N, D, HG.out⟩, (Chg.refl _ _).setCell (.inl HS.out) _⟩
  · have HE := Lib.hid (show g.fail c = g by unfold Gr.fail; rw [if_neg h0])
    clear HF
    have hb' := hb.resolve_left h0
    clear hb h0
    rcases hc with rfl | rfl
    all_goals
      first | rw [errC_lim] | rw [errC_ran]
      rcases hb' with hb | hb
      all_goals
        rw [hb] at c3
        first | rw [errC_lim] at c3 | rw [errC_ran] at c3
        clear hb
        go_enter Tryd.func51, Tryd.ntmps51
        go_wp2
        go_ret
        exact ⟨rfl, by rw [HE.out]; exact ⟨p, m, u, N, D, HA.out⟩, Chg.refl _ _⟩

set_option maxHeartbeats 1000000 in
theorem gnew_any (A : Nat → Addr) (n : Int) (w : World) (h1 : -9223372036854775808 ≤ n) (h2 : n ≤ 9223372036854775807) :
    Calls Tryd.prog 23 #[.int .i64 n] w fun e w' => (∃ v S, e = .returned v ∧ GrM w' A v S (newG n) ∧ ∀ i ∈ S, w.heap.size ≤ i) ∧ Below w.heap.size w w' := by
  have hmm := @run_makeMap Tryd.prog
  have HM := Lib.hid (World.ownsMap_made (H := Unit) w Tryd.prog 49 (plainElem Tryd.prog 3))
  have HG : Hid (∀ k : Nat, (newG n).n = k → GrM ((w.alloc (.map #[] 0)).alloc (.cells #[.int .i64 (k : Int), .slice none 0 0, .map (some w.heap.size), .nilIface] 63)) A (.pointer (some ⟨w.heap.size + 1, 0, none⟩)) [w.heap.size + 1, w.heap.size] (newG n)) := fun k hk => by
    have hz : (w.alloc (.map #[] 0)).heap.size = w.heap.size + 1 := by simp
    have hc : ∀ o u, #[Value.int .i64 (k : Int), .slice none 0 0, .map (some w.heap.size), .nilIface][o]? = some u → ((w.alloc (.map #[] 0)).alloc (.cells #[.int .i64 (k : Int), .slice none 0 0, .map (some w.heap.size), .nilIface] 63)).cell? ⟨w.heap.size + 1, o, none⟩ = some u := fun o u ho => by
      rw [← hz, cell_of_row _ _ o _ 63 (0, 0) (heap_alloc_new _ _)]
      exact ho
    exact ⟨w.heap.size + 1, w.heap.size, .slice none 0 0, 0, .map [],
      { val := rfl, foot := rfl
        c0 := by rw [hk]; exact hc 0 _ rfl
        c1 := hc 1 _ rfl, c2 := hc 2 _ rfl, c3 := hc 3 _ rfl
        fr := fun i => by
          have := heap_alloc_new (w.alloc (.map #[] 0)) (.cells #[.int .i64 (k : Int), .slice none 0 0, .map (some w.heap.size), .nilIface] 63)
          rw [hz] at this
          simp only [World.frozen?, this]
          simp
        row := ⟨rfl, .inl ⟨rfl, rfl⟩⟩
        map := HM.out.alloc _
        pm := by omega, pu := by simp [Value.ownBlock], mu := by simp [Value.ownBlock], nle := Nat.zero_le _
        mapg := MapG.start _ _
        len := by simp only [newG, Gr.len, List.length_nil]; omega
        bad := .inl rfl }⟩
  have HB : Hid (∀ k : Nat, Below w.heap.size w ((w.alloc (.map #[] 0)).alloc (.cells #[.int .i64 (k : Int), .slice none 0 0, .map (some w.heap.size), .nilIface] 63))) := fun k => ((Below.refl _ w).alloc (Nat.le_refl _) _).alloc (by simp) _
  clear HM
  rcases (show n < 0 ∨ (0 ≤ n ∧ n ≤ 8000) ∨ 8000 < n by omega) with h | h | h
  · have HK := Lib.hid (HG.out 0 (by simp only [newG]; omega))
    clear HG
    go_enter Tryd.func23, Tryd.ntmps23
    go_wp2
    go_ret
    exact ⟨⟨_, _, rfl, HK.out, by simp⟩, HB.out 0⟩
  · obtain ⟨k, rfl⟩ := Int.eq_ofNat_of_zero_le h.1
    have HK := Lib.hid (HG.out k (by simp only [newG]; omega))
    clear HG
    obtain ⟨_, h⟩ := h
    go_enter Tryd.func23, Tryd.ntmps23
    go_wp2
    go_ret
    exact ⟨⟨_, _, rfl, HK.out, by simp⟩, HB.out k⟩
  · have HK := Lib.hid (HG.out 8000 (by simp only [newG]; omega))
    clear HG
    go_enter Tryd.func23, Tryd.ntmps23
    go_wp2
    go_ret
    exact ⟨⟨_, _, rfl, HK.out, by simp⟩, HB.out 8000⟩
end Go.Proofs.YtdmhjpofinnpmaaDoor
