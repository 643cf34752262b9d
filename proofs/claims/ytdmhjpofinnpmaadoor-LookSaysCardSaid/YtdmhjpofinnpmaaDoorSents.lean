/- From the condition on the package's errors (each variable holds a pointer to its own text) to what the walks ask: where each lies, that no two are one, and that it stays so. No conditions beyond those typed. -/
import Derived.Test.YtdmhjpofinnpmaaDoorBase
import Derived.Test.YtdmhjpofinnpmaaDoorRows
import Derived.LaidLaws
import Derived.LaidEql
import Derived.LaidMore
import Derived.MakeChecks
import Derived.ChangeSame
namespace Go.Proofs.YtdmhjpofinnpmaaDoor
open Go.RowKit

/-- A listed error: its variable's name, its text. -/
def sentD (x : String × List UInt8) : String × DataW Unit := (x.1, .iface "*errors.errorString" (.ptr (.agg [.lit (.string x.2)])))

theorem sents_of {P : Program} {W : World} {ti tp te ts : TypeId} {ms : Array (String × TypeId)} {f : Field}
    (hi : P.underlying ti = some (.interface ms)) (hrow : ∀ u, P.typeName? 3 u = some "*errors.errorString" → u = tp)
    (hp : P.underlying tp = some (.pointer te)) (he : P.underlying te = some (.struct #[f])) (hft : f.type = ts) (hfo : f.offset = 0) (hs : P.underlying ts = some .string) (hc : P.cellsOf te = 1) (hcs : P.cellsOf ts = 1) :
    ∀ (L : List (String × List UInt8)) (ps : List MemPlace), DataW.LaidVars P W (L.map sentD) ps → (∀ x ∈ L, ∀ g, P.globalNamed x.1 = some g → (P.globals[g]?).map (·.type) = some ti) →
      (∀ b off, MemPlace.cell b off ∈ ps → (∃ c t, W.heap[b]? = some (.cells c t (0, 0))) ∧ ∀ u v, W.cell? ⟨b, off, none⟩ = some (.iface u v) → Value.okWide P W .any 0 u v) →
      ∃ gs : List (Nat × Addr), gs.length = L.length ∧ ps = gs.flatMap (fun x => [.cell x.1 0, .cell x.2.block x.2.off]) ∧
        ∀ i (h : i < L.length), ∃ g a, gs[i]? = some (g, a) ∧ P.globalNamed (L[i]).1 = some g ∧ W.cell? ⟨g, 0, none⟩ = some (.iface tp (.pointer (some a))) ∧ a.spot = none
  | [], ps, h, _, _ => ⟨[], rfl, h, fun i h => absurd h (Nat.not_lt_zero _)⟩
  | x :: L, ps, h, hty, hrows => by
    obtain ⟨g, t, cs, fuel, p, q, hg, ht, hv, hd, hr, rfl⟩ := h
    obtain rfl : ti = t := Option.some.inj ((hty x (by simp) g hg).symm.trans ht)
    obtain ⟨l⟩ := cs
    have hok : ∀ u v, l = [.iface u v] → Value.okWide P W .any 0 u v := fun u v e => by
      subst e
      exact (hrows g 0 (by simp [MemPlace.row])).2 u v (by simpa using World.var?_cell hg hv 0)
    obtain ⟨a, s, e, hca, _, _, rfl⟩ := errorString_of_trod hi hrow hp he hft hfo hs hc hcs hd hok
    have el : l = [.iface tp (.pointer (some a))] := e
    subst el
    obtain ⟨gs, hl, rfl, hgs⟩ := sents_of hi hrow hp he hft hfo hs hc hcs L q hr (fun y hy => hty y (by simp [hy])) (fun b off hm => hrows b off (by simp [hm]))
    refine ⟨(g, a) :: gs, by simp [hl], by simp [MemPlace.row, List.range_succ], fun i h => ?_⟩
    match i, h with
    | 0, _ => exact ⟨g, a, rfl, hg, by simpa using World.var?_cell hg hv 0, World.cell?_spot hca⟩
    | i + 1, h => exact hgs i (by simpa using h)

/-- The i-th error as a value. -/
def sentV (A : Nat → Addr) (i : Nat) : Value := .iface 77 (.pointer (some (A i)))

theorem star89 : "*" ++ "errors.errorString" = "*errors.errorString" := by decide
theorem rowES (u : TypeId) (h : Tryd.prog.typeName? 3 u = some "*errors.errorString") : u = 77 :=
  typeName_ptr_named (nm := "errors.errorString") (by rw [star89]; kernel_rfl) (by kernel_rfl) (by decide) u (by rw [star89]; exact h)

theorem gs1 : Tryd.prog.globalNamed "skolem/api.ErrLimit" = some 0 := by kernel_rfl
theorem gs3 : Tryd.prog.globalNamed "skolem/api.ErrRange" = some 1 := by kernel_rfl
end Go.Proofs.YtdmhjpofinnpmaaDoor
