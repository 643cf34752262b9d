/- From the way in which an api.Script is handed over to its four rows and its two numbers. No conditions beyond those typed. -/
import Derived.Test.YtnhmeojcjnkebaaOpenR
import Derived.Deep.Slices
namespace Go.Proofs.Ytnhmeojcjnkebaa
open Go.RowKit Go.ChangeShapes Go.WideShapes Go.ChangeAt Go.Deep Go.Joins

theorem cellsSc : Try.prog.cellsOf 24 = 6 := by kernel_rfl
theorem cellsIs9 : Try.prog.cellsOf 22 = 1 := by kernel_rfl

theorem row_of_trod9 {H : Type} {enc : TypeId × Value → H} {W : World} {n : Nat} {v : Value} {y : DataW H × List MemPlace} (h : DataW.trod enc Try.prog W 0 (fun _ => true) true n 22 [v] = some y) : ∃ xs, Row W v xs ∧ ∀ z ∈ xs, -9223372036854775808 ≤ z ∧ z ≤ 9223372036854775807 := by
  rcases open_ints Try.underlying22 Try.underlying3 cellsInt h with ⟨hcs, _⟩ | ⟨x, l, c, zs, hcs, _, hl, hm, hz, _, hcell, hwz⟩
  · simp only [List.cons.injEq, and_true] at hcs
    exact ⟨[], ⟨none, 0, by rw [hcs]; rfl, ⟨Nat.le_refl _, by unfold maxLen; omega, .inl rfl⟩⟩, by simp⟩
  · simp only [List.cons.injEq, and_true] at hcs
    obtain ⟨xs, hx, hr, hb⟩ := rowOf (.inr ⟨x, rfl, hl, hm, by simpa using hz, hcell, hwz⟩)
    exact ⟨xs, ⟨some x, c, by rw [hcs, hx], hr⟩, hb⟩
theorem array6 {cs : Array Value} (h : cs.size = 6) : ∃ a b c d e f, cs = #[a, b, c, d, e, f] := by
  obtain ⟨l⟩ := cs
  match l, h with
  | [a, b, c, d, e, f], _ => exact ⟨a, b, c, d, e, f, rfl⟩

set_option maxRecDepth 100000 in
theorem open_script {H : Type} {enc : TypeId × Value → H} {W : World} {base : Nat} {v : Value} {d : DataW H} {p : List MemPlace} (hv : Value.okWide Try.prog W .any base 24 v) (h : DataW.Trod enc Try.prog W 0 (fun _ => true) true 24 v d p) :
    ∃ v0 v1 v2 v3 x0 x1 x2 x3 b r, v = .agg #[v0, v1, v2, v3, .int .i64 b, .int .i64 r] ∧ Row W v0 x0 ∧ Row W v1 x1 ∧ Row W v2 x2 ∧ Row W v3 x3 ∧ ∀ z ∈ x0, -9223372036854775808 ≤ z ∧ z ≤ 9223372036854775807 := by
  obtain ⟨cs, rfl, hsz⟩ := okWide_struct Try.underlying24 hv
  obtain ⟨c0, c1, c2, c3, c4, c5, rfl⟩ := array6 (hsz.trans cellsSc)
  obtain ⟨fuel, hf⟩ := h
  obtain ⟨xs, k, _, _, _, hxl, hg⟩ := DataW.trod_struct Try.underlying24 hf
  have hx6 : xs.length = 6 := hxl
  match xs, hx6 with
  | [y0, y1, y2, y3, y4, y5], _ =>
    have g0 := hg 0 _ rfl
    have g1 := hg 1 _ rfl
    have g2 := hg 2 _ rfl
    have g3 := hg 3 _ rfl
    have g4 := hg 4 _ rfl
    have g5 := hg 5 _ rfl
    simp [Value.cells, cellsIs9, cellsInt] at g0 g1 g2 g3 g4 g5
    obtain ⟨z4, e4, _, _⟩ := DataW.trod_int Try.underlying3 g4
    obtain ⟨z5, e5, _, _⟩ := DataW.trod_int Try.underlying3 g5
    simp only [List.cons.injEq, and_true] at e4 e5
    subst e4; subst e5
    obtain ⟨x0, k0, b0⟩ := row_of_trod9 g0
    obtain ⟨x1, k1, _⟩ := row_of_trod9 g1
    obtain ⟨x2, k2, _⟩ := row_of_trod9 g2
    obtain ⟨x3, k3, _⟩ := row_of_trod9 g3
    exact ⟨c0, c1, c2, c3, x0, x1, x2, x3, z4, z5, rfl, k0, k1, k2, k3, b0⟩
end Go.Proofs.Ytnhmeojcjnkebaa
