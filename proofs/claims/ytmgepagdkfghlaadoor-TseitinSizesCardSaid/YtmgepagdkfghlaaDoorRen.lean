/- Contracts of graph.renamed and the document's as: 'renL'. Conditions: the row reads as literals; the literal's node is within it. -/
import Derived.Test.YtmgepagdkfghlaaDoorGrB
import Derived.Test.YtmgepagdkfghlaaDoorOwn
import Derived.Test.YtmgepagdkfghlaaDoorOpenRows
namespace Go.Proofs.YtmgepagdkfghlaaDoor
open Go.RowKit

/-- A row's entries are literals, not too large. -/
def LitsOk (bs : List Int) : Prop := ∀ j, 0 ≤ bs.getD j 0 ∧ bs.getD j 0 < 4611686018427387904
theorem litsOk_of {g : Gr} {bs : List Int} (hl : g.len ≤ 8000) (h : ∀ j, g.isB (bs.getD j 0) = true) : LitsOk bs := fun j => by
  have := (isB_iff _ _).1 (h j)
  omega
theorem renL_val (bs : List Int) (l : Int) (h0 : 0 ≤ l) (h1 : l < 4611686018427387904) (hb : LitsOk bs) : bits .xor .i64 (bs.getD (l / 2).toNat 0) (bits .and .i64 l 1) = renL bs l := by
  rw [and_oneI l h0 h1]
  unfold renL
  exact xor_bit _ l (hb _).1 (hb _).2 (by omega)

set_option maxHeartbeats 1000000 in
theorem as_any (l : Int) (v : Value) (bs : List Int) (w : World) (hv : Row w v bs) (hb : LitsOk bs) (h0 : 0 ≤ l) (h1 : l < 4611686018427387904) (h2 : l / 2 < (bs.length : Int)) :
    Calls Tryd.prog 42 #[v, .int .i64 l] w fun e w' => e = .returned (.int .i64 (renL bs l)) ∧ w = w' := by
  obtain ⟨a, c, rfl, hxc, hcm, hx⟩ := hv
  unfold maxLen at hcm
  obtain ⟨k, hk⟩ : ∃ k : Nat, l / 2 = (k : Int) := ⟨(l / 2).toNat, by omega⟩
  have hkl : k < bs.length := by omega
  have HV := Lib.hid (renL_val bs l h0 h1 hb)
  rw [hk, show ((k : Int)).toNat = k by omega] at HV
  obtain ⟨b, off, ha, hbl, hc⟩ := hx.resolve_left (by omega)
  subst ha
  have y0 := hc k hkl
  clear hc hx
  generalize bs.getD k 0 = x at *
  generalize renL bs l = r at *
  generalize bs.length = n at *
  go_enter Tryd.func42, Tryd.ntmps42
  go_wp2_with fail
  go_ret
  exact ⟨ret_int HV.out, rfl⟩
end Go.Proofs.YtmgepagdkfghlaaDoor
