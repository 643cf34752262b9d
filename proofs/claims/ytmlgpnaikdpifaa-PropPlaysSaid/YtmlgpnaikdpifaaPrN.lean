/- The trail is short, its literals are small. No conditions beyond those typed. -/
import Derived.Test.YtmlgpnaikdpifaaPrP
import Derived.Test.YtmlgpnaikdpifaaSmall
set_option linter.unusedVariables false
set_option linter.unusedSimpArgs false
namespace Go.Proofs.Ytmlgpnaikdpifaa
open Go.RowKit

theorem PrW.tr_len {p : Pr} (h : PrW p) : p.tr.length ≤ p.n + 1 := by
  have h1 : (p.tr.map plc).Nodup := List.pairwise_map.2 h.one
  have h2 : p.tr.map plc ⊆ List.range (p.n + 1) := fun x hx => by
    obtain ⟨l, hl, rfl⟩ := List.mem_map.1 hx
    have := h.rgt l hl
    exact List.mem_range.2 (by omega)
  have := h1.length_le_of_subset h2
  simpa using this
theorem PrW.tr_in {p : Pr} (h : PrW p) : InW p.tr := fun l hl => by
  have h1 := h.rgt l hl
  have h2 := plc_absI l
  have h3 := h.n
  unfold absI at h2
  split at h2 <;> omega
end Go.Proofs.Ytmlgpnaikdpifaa
