/- Contracts of graph's small functions: is, literal, Not, Len, Inputs, Err, fail, New. Conditions: the numbers are small; the graph lies in memory as 'GrM' says. -/
import Derived.Test.YtmgepagdkfghlaaDoorGrM
import Derived.Test.YtmgepagdkfghlaaDoorChecked
import Derived.IntWalk
import Derived.Deep.QuietTactic
import Derived.BigQuiet
import Derived.RegionTactic
import Derived.Carry
namespace Go.Proofs.YtmgepagdkfghlaaDoor
open Go.RowKit Go.Maps

theorem row_shape {w : World} {B : Nat} {e : TypeId} {size : Nat} {v : Value} {n : Nat} {xs : List Value} (h : w.ownsRow B e size v n xs) : ∃ a cap, v = .slice a n cap ∧ n ≤ cap ∧ cap ≤ maxLen := by
  rcases h.2 with ⟨e0, e1⟩ | ⟨g, cap, cur, hv, hb, hg, h1, h2, _⟩
  · exact ⟨none, 0, by rw [e0, e1], by omega, by unfold maxLen; omega⟩
  · exact ⟨_, cap, hv, h1, h2⟩

set_option maxHeartbeats 400000 in
theorem gis_any (l k : Int) (w : World) (h1 : -9223372036854775808 ≤ l) (h2 : l ≤ 9223372036854775807) :
    Calls Tryd.prog 46 #[.int .i64 l, .int .i64 k] w fun e w' => e = .returned (.bool (decide (0 ≤ l) && decide (l / 2 ≤ k))) ∧ w = w' := by
  by_cases h0 : 0 ≤ l
  · have hd : decide (0 ≤ l) = true := decide_eq_true h0
    go_enter Tryd.func46, Tryd.ntmps46
    go_wp2
    go_ret
    exact ⟨ret_bool (by simp [h0]), rfl⟩
  · have hd : decide (0 ≤ l) = false := decide_eq_false h0
    go_enter Tryd.func46, Tryd.ntmps46
    go_wp2
    go_ret
    exact ⟨ret_bool (by simp), rfl⟩

set_option maxHeartbeats 400000 in
theorem gnot_any (l : Int) (w : World) (h1 : 0 ≤ l) (h2 : l < 4611686018427387904) :
    Calls Tryd.prog 29 #[.int .i64 l] w fun e w' => e = .returned (.int .i64 (notI l)) ∧ w = w' := by
  have HX := Lib.hid (xor_oneI l h1 h2)
  go_enter Tryd.func29, Tryd.ntmps29
  go_wp2
  go_ret
  exact ⟨ret_int HX.out, rfl⟩

theorem errC_lim (A : Nat → Addr) : errC A 102 = .iface 90 (.pointer (some (A 1))) := rfl
theorem errC_ran (A : Nat → Addr) : errC A 104 = .iface 90 (.pointer (some (A 3))) := rfl
theorem GrAt.fail {w : World} {A : Nat → Addr} {v : Value} {S : List Nat} {g : Gr} {p m : Nat} {u : Value} {N : Nat} {D : DataW Unit} (h : GrAt w A v S g p m u N D) (c : Int) (hc : badC c) :
    GrAt (w.setCell ⟨p, 3, none⟩ (errC A c)) A v S ⟨g.n, g.ands, c⟩ p m u N D := by
  have ho : ∀ o, o ≠ 3 → (w.setCell ⟨p, 3, none⟩ (errC A c)).cell? ⟨p, o, none⟩ = w.cell? ⟨p, o, none⟩ := fun o hne => World.cell?_setCell_other (w := w) (h := fun hh => hne (by injection hh with _ e; exact e.symm)) ..
  exact { val := h.val, foot := h.foot
          c0 := (ho 0 (by decide)).trans h.c0
          c1 := (ho 1 (by decide)).trans h.c1
          c2 := (ho 2 (by decide)).trans h.c2
          c3 := World.cell?_setCell_same (w := w) (h := h.c3) ..
          fr := fun i => (World.frozen?_setCell _ _ _ _).trans (h.fr i)
          row := own_chg (S := [p]) h.row ((Chg.refl [p] w).setCell (.inl (by simp)) _) (fun k hk => by simp; intro e; exact h.pu (by rw [hk, e]))
          map := by
            obtain ⟨es, clock, h1, h2⟩ := h.map
            exact ⟨es, clock, (Below.heap_setCell _ _ _ _ (fun e => h.pm e.symm)).trans h1, h2⟩
          pm := h.pm, pu := h.pu, mu := h.mu, nle := h.nle, mapg := h.mapg.bad c, len := h.len, bad := hc }

end Go.Proofs.YtmgepagdkfghlaaDoor
