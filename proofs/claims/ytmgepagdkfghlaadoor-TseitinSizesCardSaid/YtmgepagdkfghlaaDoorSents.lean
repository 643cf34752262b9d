/- From the condition on the package's errors (each variable holds a pointer to its own text) to what the walks ask: where each lies, that no two are one, and that it stays so. No conditions beyond those typed. -/
import Derived.Test.YtmgepagdkfghlaaDoorBase
import Derived.Test.YtmgepagdkfghlaaDoorRows
import Derived.LaidLaws
import Derived.LaidEql
import Derived.LaidMore
import Derived.MakeChecks
import Derived.ChangeSame
namespace Go.Proofs.YtmgepagdkfghlaaDoor
open Go.RowKit

/-- A listed error: its variable's name, its text. -/
def sentD (x : String × List UInt8) : String × DataW Unit := (x.1, .iface "*errors.errorString" (.ptr (.agg [.lit (.string x.2)])))

theorem sents_of {P : Program} {W : World} {ti tp te ts : TypeId} {ms : Array (String × TypeId)} {f : Field}
    (hi : P.underlying ti = some (.interface ms)) (hrow : ∀ u, P.typeName? 3 u = some "*errors.errorString" → u = tp)
    (hp : P.underlying tp = some (.pointer te)) (he : P.underlying te = some (.struct #[f])) (hft : f.type = ts) (hfo : f.offset = 0) (hs : P.underlying ts = some .string) (hc : P.cellsOf te = 1) (hcs : P.cellsOf ts = 1) :
    ∀ (L : List (String × List UInt8)) (ps : List MemPlace), DataW.LaidVars P W (L.map sentD) ps → (∀ x ∈ L, ∀ g, P.globalNamed x.1 = some g → (P.globals[g]?).map (·.type) = some ti) →
      (∀ b off, MemPlace.cell b off ∈ ps → (∃ c t, W.heap[b]? = some (.cells c t (0, 0))) ∧ ∀ u v, W.cell? ⟨b, off, none⟩ = some (.iface u v) → Value.okWide P W .any 0 u v) →
      ∃ gs : List (Nat × Addr), gs.length = L.length ∧ ps = gs.flatMap (fun x => [.cell x.1 0, .cell x.2.block x.2.off]) ∧
        ∀ i (h : i < L.length), ∃ g a, gs[i]? = some (g, a) ∧ P.globalNamed (L[i]).1 = some g ∧ W.cell? ⟨g, 0, none⟩ = some (.iface tp (.pointer (some a))) ∧ a.spot = none
  | [], ps, h, _, _ => ⟨[], rfl, h, fun i h => absurd h (Nat.not_lt_zero _)⟩
  | x :: L, ps, h, hty, hrows => by
    obtain ⟨g, t, cs, fuel, p, q, hg, ht, hv, hd, hr, rfl⟩ := h
    obtain rfl : ti = t := Option.some.inj ((hty x (by simp) g hg).symm.trans ht)
    obtain ⟨l⟩ := cs
    have hok : ∀ u v, l = [.iface u v] → Value.okWide P W .any 0 u v := fun u v e => by
      subst e
      exact (hrows g 0 (by simp [MemPlace.row])).2 u v (by simpa using World.var?_cell hg hv 0)
    obtain ⟨a, s, e, hca, _, _, rfl⟩ := errorString_of_trod hi hrow hp he hft hfo hs hc hcs hd hok
    have el : l = [.iface tp (.pointer (some a))] := e
    subst el
    obtain ⟨gs, hl, rfl, hgs⟩ := sents_of hi hrow hp he hft hfo hs hc hcs L q hr (fun y hy => hty y (by simp [hy])) (fun b off hm => hrows b off (by simp [hm]))
    refine ⟨(g, a) :: gs, by simp [hl], by simp [MemPlace.row, List.range_succ], fun i h => ?_⟩
    match i, h with
    | 0, _ => exact ⟨g, a, rfl, hg, by simpa using World.var?_cell hg hv 0, World.cell?_spot hca⟩
    | i + 1, h => exact hgs i (by simpa using h)

theorem flat_nodup : ∀ (gs : List (Nat × Addr)), (gs.flatMap (fun x => [MemPlace.cell x.1 0, .cell x.2.block x.2.off])).Nodup → ∀ (i j gi : Nat) (ai : Addr) (gj : Nat) (aj : Addr), gs[i]? = some (gi, ai) → gs[j]? = some (gj, aj) → i ≠ j → ai ≠ aj
  | [], _, i, _, _, _, _, _, h, _, _ => by simp at h
  | x :: gs, hn, i, j, gi, ai, gj, aj, h1, h2, hne => by
    rw [List.flatMap_cons, List.nodup_append] at hn
    obtain ⟨_, hn2, hn3⟩ := hn
    have hmem : ∀ (k g : Nat) (a : Addr), gs[k]? = some (g, a) → MemPlace.cell a.block a.off ∈ gs.flatMap (fun x => [MemPlace.cell x.1 0, .cell x.2.block x.2.off]) := fun k g a h => by
      rw [List.mem_flatMap]
      exact ⟨(g, a), List.mem_of_getElem? h, by simp⟩
    cases i with
    | zero =>
      cases j with
      | zero => exact absurd rfl hne
      | succ j =>
        have h1' : x = (gi, ai) := by simpa using h1
        have h2' : gs[j]? = some (gj, aj) := by simpa using h2
        intro e
        exact hn3 (.cell ai.block ai.off) (by simp [h1']) _ (hmem j _ _ h2') (by rw [e])
    | succ i =>
      have h1' : gs[i]? = some (gi, ai) := by simpa using h1
      cases j with
      | zero =>
        have h2' : x = (gj, aj) := by simpa using h2
        intro e
        exact hn3 (.cell aj.block aj.off) (by simp [h2']) _ (hmem i _ _ h1') (by rw [e])
      | succ j => exact flat_nodup gs hn2 i j gi ai gj aj h1' (by simpa using h2) (by omega)

/-- Where the errors of package api lie: g the variables' blocks in the order of the helper's list, A their texts' addresses; no two are one. -/
structure Sents (w : World) (A : Nat → Addr) : Prop where
  c0 : w.cell? ⟨2, 0, none⟩ = some (.iface 90 (.pointer (some (A 0))))
  c1 : w.cell? ⟨1, 0, none⟩ = some (.iface 90 (.pointer (some (A 1))))
  c2 : w.cell? ⟨3, 0, none⟩ = some (.iface 90 (.pointer (some (A 2))))
  c3 : w.cell? ⟨0, 0, none⟩ = some (.iface 90 (.pointer (some (A 3))))
  c4 : w.cell? ⟨4, 0, none⟩ = some (.iface 90 (.pointer (some (A 4))))
  c5 : w.cell? ⟨5, 0, none⟩ = some (.iface 90 (.pointer (some (A 5))))
  c6 : w.cell? ⟨6, 0, none⟩ = some (.iface 90 (.pointer (some (A 6))))
  ne : ∀ i j, i < 7 → j < 7 → i ≠ j → A i ≠ A j
  row : ∀ i, i < 7 → ∃ c t, w.heap[(A i).block]? = some (.cells c t (0, 0))

theorem Sents.keep {w w' : World} {A : Nat → Addr} (h : Sents w A) (hb : Below w.heap.size w w') : Sents w' A := by
  have k : ∀ g v, w.cell? ⟨g, 0, none⟩ = some v → w'.cell? ⟨g, 0, none⟩ = some v := fun g v e => (hb.cell (p := ⟨g, 0, none⟩) (World.block_lt_of_cell? w _ e)).trans e
  refine ⟨k _ _ h.c0, k _ _ h.c1, k _ _ h.c2, k _ _ h.c3, k _ _ h.c4, k _ _ h.c5, k _ _ h.c6, h.ne, fun i hi => ?_⟩
  obtain ⟨c, t, e⟩ := h.row i hi
  have hlt : (A i).block < w.heap.size := by
    rcases Nat.lt_or_ge (A i).block w.heap.size with h' | h'
    · exact h'
    · rw [Array.getElem?_eq_none h'] at e; cases e
  exact ⟨c, t, (hb.block _ hlt).trans e⟩

/-- The i-th error as a value. -/
def sentV (A : Nat → Addr) (i : Nat) : Value := .iface 90 (.pointer (some (A i)))

theorem star89 : "*" ++ "errors.errorString" = "*errors.errorString" := by decide
theorem rowES (u : TypeId) (h : Tryd.prog.typeName? 3 u = some "*errors.errorString") : u = 90 :=
  typeName_ptr_named (nm := "errors.errorString") (by rw [star89]; kernel_rfl) (by kernel_rfl) (by decide) u (by rw [star89]; exact h)

/-- The seven errors' names, as the rows list them. -/
def sentL : List (String × List UInt8) := [("skolem/api.ErrText", [110, 111, 116, 32, 97, 115, 32, 105, 116, 32, 105, 115, 32, 119, 114, 105, 116, 116, 101, 110]), ("skolem/api.ErrLimit", [109, 111, 114, 101, 32, 116, 104, 97, 110, 32, 109, 97, 121, 32, 98, 101]),
  ("skolem/api.ErrBudget", [116, 104, 101, 32, 98, 117, 100, 103, 101, 116, 32, 105, 115, 32, 117, 115, 101, 100, 32, 117, 112]), ("skolem/api.ErrRange", [97, 32, 110, 117, 109, 98, 101, 114, 32, 111, 117, 116, 32, 111, 102, 32, 105, 116, 115, 32, 114, 97, 110, 103, 101]),
  ("skolem/api.ErrBlocks", [109, 111, 114, 101, 32, 116, 104, 97, 110, 32, 116, 119, 111, 32, 98, 108, 111, 99, 107, 115]), ("skolem/api.ErrProof", [97, 32, 115, 116, 101, 112, 32, 116, 104, 97, 116, 32, 100, 111, 101, 115, 32, 110, 111, 116, 32, 102, 111, 108, 108, 111, 119]),
  ("skolem/api.ErrCert", [110, 111, 32, 99, 101, 114, 116, 105, 102, 105, 99, 97, 116, 101, 32, 111, 102, 32, 105, 116])]

theorem gs0 : Tryd.prog.globalNamed "skolem/api.ErrText" = some 2 := by kernel_rfl
theorem gs1 : Tryd.prog.globalNamed "skolem/api.ErrLimit" = some 1 := by kernel_rfl
theorem gs2 : Tryd.prog.globalNamed "skolem/api.ErrBudget" = some 3 := by kernel_rfl
theorem gs3 : Tryd.prog.globalNamed "skolem/api.ErrRange" = some 0 := by kernel_rfl
theorem gs4 : Tryd.prog.globalNamed "skolem/api.ErrBlocks" = some 4 := by kernel_rfl
theorem gs5 : Tryd.prog.globalNamed "skolem/api.ErrProof" = some 5 := by kernel_rfl
theorem gs6 : Tryd.prog.globalNamed "skolem/api.ErrCert" = some 6 := by kernel_rfl
theorem gty : ((sentL.map fun x => (Tryd.prog.globalNamed x.1).bind fun g => (Tryd.prog.globals[g]?).map (·.type)).all fun t => t == some 31) = true := by kernel_rfl

theorem sents_met {W : World} (h : laidMet Tryd.prog (sentL.map sentD) W) : ∃ A, Sents W A := by
  obtain ⟨ps, hl, hnd, hrows⟩ := h
  obtain ⟨gs, hlen, rfl, hg⟩ := sents_of Tryd.underlying31 rowES Tryd.underlying90 Tryd.underlying107 rfl rfl Tryd.underlying9 (by kernel_rfl) (by kernel_rfl) sentL ps hl
    (fun x hx g hg => by
      have := List.all_eq_true.1 gty _ (List.mem_map_of_mem hx)
      simpa [hg] using this) hrows
  have hA : ∀ i, i < 7 → ∃ a g, gs[i]? = some (g, a) := fun i hi => by
    obtain ⟨g, a, e, _⟩ := hg i hi
    exact ⟨a, g, e⟩
  refine ⟨fun i => ((gs[i]?).map (·.2)).getD default, ?_, ?_, ?_, ?_, ?_, ?_, ?_, fun i j hi hj hne => ?_, fun i hi => ?_⟩
  · obtain ⟨g, a, e, hn, hc, _⟩ := hg 0 (by decide); obtain rfl := Option.some.inj (gs0.symm.trans hn); simpa [e] using hc
  · obtain ⟨g, a, e, hn, hc, _⟩ := hg 1 (by decide); obtain rfl := Option.some.inj (gs1.symm.trans hn); simpa [e] using hc
  · obtain ⟨g, a, e, hn, hc, _⟩ := hg 2 (by decide); obtain rfl := Option.some.inj (gs2.symm.trans hn); simpa [e] using hc
  · obtain ⟨g, a, e, hn, hc, _⟩ := hg 3 (by decide); obtain rfl := Option.some.inj (gs3.symm.trans hn); simpa [e] using hc
  · obtain ⟨g, a, e, hn, hc, _⟩ := hg 4 (by decide); obtain rfl := Option.some.inj (gs4.symm.trans hn); simpa [e] using hc
  · obtain ⟨g, a, e, hn, hc, _⟩ := hg 5 (by decide); obtain rfl := Option.some.inj (gs5.symm.trans hn); simpa [e] using hc
  · obtain ⟨g, a, e, hn, hc, _⟩ := hg 6 (by decide); obtain rfl := Option.some.inj (gs6.symm.trans hn); simpa [e] using hc
  · obtain ⟨a, g, e⟩ := hA i hi
    obtain ⟨a', g', e'⟩ := hA j hj
    simp only [e, e', Option.map_some, Option.getD_some]
    exact flat_nodup gs hnd i j g a g' a' e e' hne
  · obtain ⟨a, g, e⟩ := hA i hi
    simp only [e, Option.map_some, Option.getD_some]
    exact (hrows a.block a.off (by rw [List.mem_flatMap]; exact ⟨(g, a), List.mem_of_getElem? e, by simp⟩)).1

/-- The same of the three errors that prefix.Norm reads. -/
structure Sents3 (w : World) (A : Nat → Addr) : Prop where
  c1 : w.cell? ⟨1, 0, none⟩ = some (.iface 90 (.pointer (some (A 1))))
  c3 : w.cell? ⟨0, 0, none⟩ = some (.iface 90 (.pointer (some (A 3))))
  c4 : w.cell? ⟨4, 0, none⟩ = some (.iface 90 (.pointer (some (A 4))))
theorem Sents.three {w : World} {A : Nat → Addr} (h : Sents w A) : Sents3 w A := ⟨h.c1, h.c3, h.c4⟩
theorem Sents3.keep {w w' : World} {A : Nat → Addr} (h : Sents3 w A) (hb : Below w.heap.size w w') : Sents3 w' A := by
  have k : ∀ g v, w.cell? ⟨g, 0, none⟩ = some v → w'.cell? ⟨g, 0, none⟩ = some v := fun g v e => (hb.cell (p := ⟨g, 0, none⟩) (World.block_lt_of_cell? w _ e)).trans e
  exact ⟨k _ _ h.c1, k _ _ h.c3, k _ _ h.c4⟩
def sentL3 : List (String × List UInt8) := [("skolem/api.ErrLimit", [109, 111, 114, 101, 32, 116, 104, 97, 110, 32, 109, 97, 121, 32, 98, 101]), ("skolem/api.ErrRange", [97, 32, 110, 117, 109, 98, 101, 114, 32, 111, 117, 116, 32, 111, 102, 32, 105, 116, 115, 32, 114, 97, 110, 103, 101]),
  ("skolem/api.ErrBlocks", [109, 111, 114, 101, 32, 116, 104, 97, 110, 32, 116, 119, 111, 32, 98, 108, 111, 99, 107, 115])]
theorem gty3 : ((sentL3.map fun x => (Tryd.prog.globalNamed x.1).bind fun g => (Tryd.prog.globals[g]?).map (·.type)).all fun t => t == some 31) = true := by kernel_rfl
/-- What the row's condition on the three listed variables says. -/
theorem sents3_met {W : World} (h : laidMet Tryd.prog (sentL3.map sentD) W) : ∃ A, Sents3 W A := by
  obtain ⟨ps, hl, hnd, hrows⟩ := h
  obtain ⟨gs, hlen, rfl, hg⟩ := sents_of Tryd.underlying31 rowES Tryd.underlying90 Tryd.underlying107 rfl rfl Tryd.underlying9 (by kernel_rfl) (by kernel_rfl) sentL3 ps hl
    (fun x hx g hg => by
      have := List.all_eq_true.1 gty3 _ (List.mem_map_of_mem hx)
      simpa [hg] using this) hrows
  obtain ⟨g1, a1, _, n1, k1, _⟩ := hg 0 (by decide)
  obtain ⟨g3, a3, _, n3, k3, _⟩ := hg 1 (by decide)
  obtain ⟨g4, a4, _, n4, k4, _⟩ := hg 2 (by decide)
  obtain rfl := Option.some.inj (gs1.symm.trans n1)
  obtain rfl := Option.some.inj (gs3.symm.trans n3)
  obtain rfl := Option.some.inj (gs4.symm.trans n4)
  exact ⟨fun i => if i = 1 then a1 else if i = 3 then a3 else a4, by simpa using k1, by simpa using k3, by simpa using k4⟩
end Go.Proofs.YtmgepagdkfghlaaDoor
