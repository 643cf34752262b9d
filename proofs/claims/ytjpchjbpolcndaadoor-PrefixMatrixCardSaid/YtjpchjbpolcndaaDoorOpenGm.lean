/- The law PrefixMatrix: true for whatever game. Conditions: the game reads as lists of 64-bit ints, their reach as it is; the three errors lie as 'Sents3' says. -/
import Derived.Test.YtjpchjbpolcndaaDoorMatR
import Derived.Test.YtjpchjbpolcndaaDoorNormZ
import Derived.Test.YtjpchjbpolcndaaDoorRefCheck5
import Derived.Test.YtjpchjbpolcndaaDoorSameCl
import Derived.Test.YtjpchjbpolcndaaDoorOpenFm
namespace Go.Proofs.YtjpchjbpolcndaaDoor
open Go.RowKit Go.ChangeShapes Go.WideShapes Go.ChangeAt Go.Deep Go.Joins

theorem cellsGm : Tryd.prog.cellsOf 26 = 4 := by kernel_rfl
theorem cellsBl : Tryd.prog.cellsOf 4 = 1 := by kernel_rfl
theorem cellsIs : Tryd.prog.cellsOf 22 = 1 := by kernel_rfl
theorem gm_weights {H : Type} {a b c y : DataW H} {m : Nat} (h : m ∈ y.weights Tryd.prog 24) : m ∈ (DataW.agg [a, b, c, y]).weights Tryd.prog 26 := by
  simp only [DataW.weights, Tryd.underlying26]
  simpa [DataW.weightsEach] using Or.inr (Or.inr (Or.inr h))
theorem row_of_trod {H : Type} {enc : TypeId × Value → H} {W : World} {n : Nat} {v : Value} {y : DataW H × List MemPlace} (h : DataW.trod enc Tryd.prog W 0 (fun _ => true) true n 22 [v] = some y) : ∃ xs, Row W v xs ∧ ∀ z ∈ xs, -9223372036854775808 ≤ z ∧ z ≤ 9223372036854775807 := by
  rcases open_ints Tryd.underlying22 Tryd.underlying3 cellsInt h with ⟨hcs, _⟩ | ⟨x, l, c, zs, hcs, _, hl, hm, hz, _, hcell, hwz⟩
  · simp only [List.cons.injEq, and_true] at hcs
    exact ⟨[], ⟨none, 0, by rw [hcs]; rfl, ⟨Nat.le_refl _, by unfold maxLen; omega, .inl rfl⟩⟩, by simp⟩
  · simp only [List.cons.injEq, and_true] at hcs
    obtain ⟨xs, hx, hr, hb⟩ := rowOf (.inr ⟨x, rfl, hl, hm, by simpa using hz, hcell, hwz⟩)
    exact ⟨xs, ⟨some x, c, by rw [hcs, hx], hr⟩, hb⟩
set_option maxRecDepth 100000 in
theorem open_game {H : Type} {enc : TypeId × Value → H} {W : World} {base : Nat} {v : Value} {d : DataW H} {p : List MemPlace} (hv : Value.okWide Tryd.prog W .any base 26 v) (h : DataW.Trod enc Tryd.prog W 0 (fun _ => true) true 26 v d p) :
    ∃ ex vo vi ol il a cap xss, v = .agg #[.bool ex, vo, vi, .slice a (List.length xss) cap] ∧ Row W vo ol ∧ Row W vi il ∧ RowsAt W a cap xss ∧ (∀ z ∈ ol, -9223372036854775808 ≤ z ∧ z ≤ 9223372036854775807) ∧ (∀ z ∈ il, -9223372036854775808 ≤ z ∧ z ≤ 9223372036854775807) ∧
      (∀ xs ∈ xss, ∀ z ∈ xs, -9223372036854775808 ≤ z ∧ z ≤ 9223372036854775807) ∧ ((∀ m ∈ d.weights Tryd.prog 26, m ≤ reachBytes) → ∀ xs ∈ xss, xs.length ≤ 140737488355328) := by
  obtain ⟨cs, rfl, hsz⟩ := okWide_struct Tryd.underlying26 hv
  obtain ⟨c0, c1, c2, c3, rfl⟩ := array4 (hsz.trans cellsGm)
  obtain ⟨fuel, hf⟩ := h
  obtain ⟨y0, y1, y2, y3, n, hx, _, h0, h1, h2, h3⟩ := trod_struct4 Tryd.underlying26 hf
  simp only [Prod.mk.injEq] at hx
  obtain ⟨rfl, rfl⟩ := hx
  have h0' : DataW.trod enc Tryd.prog W 0 (fun _ => true) true n 4 [c0] = some y0 := by simpa [Value.cells, cellsBl] using h0
  have h1' : DataW.trod enc Tryd.prog W 0 (fun _ => true) true n 22 [c1] = some y1 := by simpa [Value.cells, cellsBl, cellsIs] using h1
  have h2' : DataW.trod enc Tryd.prog W 0 (fun _ => true) true n 22 [c2] = some y2 := by simpa [Value.cells, cellsBl, cellsIs] using h2
  have h3' : DataW.trod enc Tryd.prog W 0 (fun _ => true) true n 24 [c3] = some y3 := by simpa [Value.cells, cellsBl, cellsIs, cellsRs] using h3
  clear h0 h1 h2 h3
  obtain ⟨ex, e, _⟩ := DataW.trod_bool Tryd.underlying4 h0'
  simp only [List.cons.injEq, and_true] at e
  subst e
  obtain ⟨ol, ho, hob⟩ := row_of_trod h1'
  obtain ⟨il, hi, hib⟩ := row_of_trod h2'
  obtain ⟨a, cap, xss, rfl, hR, hRb, hRl⟩ := open_rows h3'
  exact ⟨ex, c1, c2, ol, il, a, cap, xss, rfl, ho, hi, hR, hob, hib, hRb, fun hw => hRl fun m hm => hw m (gm_weights hm)⟩
end Go.Proofs.YtjpchjbpolcndaaDoor
