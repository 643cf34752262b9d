/- The two errors that package slow reads, as they lie. Conditions: those of the card. -/
import Derived.Test.YtmgepagdkfghlaaDoorSents
namespace Go.Proofs.YtmgepagdkfghlaaDoor
open Go.RowKit

structure Sents2 (w : World) (A : Nat → Addr) : Prop where
  c1 : w.cell? ⟨1, 0, none⟩ = some (.iface 90 (.pointer (some (A 1))))
  c3 : w.cell? ⟨0, 0, none⟩ = some (.iface 90 (.pointer (some (A 3))))
theorem Sents3.two {w : World} {A : Nat → Addr} (h : Sents3 w A) : Sents2 w A := ⟨h.c1, h.c3⟩
theorem Sents.two {w : World} {A : Nat → Addr} (h : Sents w A) : Sents2 w A := ⟨h.c1, h.c3⟩
theorem Sents2.keep {w w' : World} {A : Nat → Addr} (h : Sents2 w A) (hb : Below w.heap.size w w') : Sents2 w' A := by
  have k : ∀ g v, w.cell? ⟨g, 0, none⟩ = some v → w'.cell? ⟨g, 0, none⟩ = some v := fun g v e => (hb.cell (p := ⟨g, 0, none⟩) (World.block_lt_of_cell? w _ e)).trans e
  exact ⟨k _ _ h.c1, k _ _ h.c3⟩
def sentL2 : List (String × List UInt8) := [("skolem/api.ErrLimit", [109, 111, 114, 101, 32, 116, 104, 97, 110, 32, 109, 97, 121, 32, 98, 101]), ("skolem/api.ErrRange", [97, 32, 110, 117, 109, 98, 101, 114, 32, 111, 117, 116, 32, 111, 102, 32, 105, 116, 115, 32, 114, 97, 110, 103, 101])]
theorem gty2 : ((sentL2.map fun x => (Tryd.prog.globalNamed x.1).bind fun g => (Tryd.prog.globals[g]?).map (·.type)).all fun t => t == some 31) = true := by kernel_rfl
/-- What the row's condition on the two listed variables says. -/
theorem sents2_met {W : World} (h : laidMet Tryd.prog (sentL2.map sentD) W) : ∃ A, Sents2 W A := by
  obtain ⟨ps, hl, hnd, hrows⟩ := h
  obtain ⟨gs, hlen, rfl, hg⟩ := sents_of Tryd.underlying31 rowES Tryd.underlying90 Tryd.underlying107 rfl rfl Tryd.underlying9 (by kernel_rfl) (by kernel_rfl) sentL2 ps hl
    (fun x hx g hg => by
      have := List.all_eq_true.1 gty2 _ (List.mem_map_of_mem hx)
      simpa [hg] using this) hrows
  obtain ⟨g1, a1, _, n1, k1, _⟩ := hg 0 (by decide)
  obtain ⟨g3, a3, _, n3, k3, _⟩ := hg 1 (by decide)
  obtain rfl := Option.some.inj (gs1.symm.trans n1)
  obtain rfl := Option.some.inj (gs3.symm.trans n3)
  exact ⟨fun i => if i = 1 then a1 else a3, by simpa using k1, by simpa using k3⟩
end Go.Proofs.YtmgepagdkfghlaaDoor
