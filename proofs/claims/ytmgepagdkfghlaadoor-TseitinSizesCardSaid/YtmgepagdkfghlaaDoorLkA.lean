/- Contracts of look's worth, renamed, is, gate and the document's turn: 'worthV', 'renL', yes, the gate's two literals. Conditions: the rows read as those typed; the literals are the circuit's. -/
import Derived.Test.YtmgepagdkfghlaaDoorLkQ
import Derived.Test.YtmgepagdkfghlaaDoorSmB
import Derived.Test.YtmgepagdkfghlaaDoorMkD
namespace Go.Proofs.YtmgepagdkfghlaaDoor
open Go.RowKit

set_option maxRecDepth 8000 in
set_option maxHeartbeats 1000000 in
theorem lworth_any (v : Value) (xs : List Bool) (l : Int) (w : World) (hv : BRow w v xs) (h0 : 0 ≤ l) (h1 : l < 4611686018427387904) (h2 : l / 2 < (xs.length : Int)) :
    Calls Tryd.prog 49 #[.int .i64 l, v] w fun e w' => e = .returned (.bool (worthV xs l)) ∧ w = w' := by
  obtain ⟨a, c, rfl, hxc, hcm, hx⟩ := hv
  unfold maxLen at hcm
  obtain ⟨k, hk⟩ : ∃ k : Nat, l / 2 = (k : Int) := ⟨(l / 2).toNat, by omega⟩
  have hkl : k < xs.length := by omega
  have HV := Lib.hid (odd_val (xs.getD k false) l h0 h1)
  have HW : Hid (worthV xs l = (xs.getD k false != oddB l)) := by unfold Hid worthV; rw [hk, show ((k : Int)).toNat = k by omega]
  rw [← HW.out] at HV
  obtain ⟨b, off, ha, hbl, hc⟩ := hx.resolve_left (by omega)
  subst ha
  have y0 := hc k hkl
  have hq : l.tdiv 2 = (k : Int) := by rw [Int.tdiv_eq_ediv_of_nonneg h0]; exact hk
  clear hc hx HW
  generalize xs.getD k false = x at *
  generalize worthV xs l = r at *
  generalize xs.length = n at *
  go_enter Tryd.func49, Tryd.ntmps49
  go_wp2_with fail
  go_ret
  exact ⟨ret_bool HV.out, rfl⟩

/-- A literal, or its opposite. -/
def turnI (x l : Int) : Int := if l % 2 = 0 then x else notI x

theorem two_new (W : World) (q : Nat) (hq : W.heap.size = q) (a b : Value) (T : TypeId) : (W.alloc (.cells #[a, b] T)).cell? ⟨q, 0, none⟩ = some a ∧ (W.alloc (.cells #[a, b] T)).cell? ⟨q, 1, none⟩ = some b := by
  subst hq
  constructor
  · rw [cell_of_row _ _ 0 _ T (0, 0) (heap_alloc_new W _)]; rfl
  · rw [cell_of_row _ _ 1 _ T (0, 0) (heap_alloc_new W _)]; rfl

end Go.Proofs.YtmgepagdkfghlaaDoor
