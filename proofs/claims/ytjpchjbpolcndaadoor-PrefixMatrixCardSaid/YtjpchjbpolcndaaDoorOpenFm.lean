/- From the way in which a formula is handed over as an argument (blocks, variables, clauses) to 'BRowsAt', 'RowsAt', with the bounds and the reach. No conditions beyond those typed. -/
import Derived.Test.YtjpchjbpolcndaaDoorBlkM
import Derived.Test.YtjpchjbpolcndaaDoorOpenRows
import Derived.Deep.SlicePairs
namespace Go.Proofs.YtjpchjbpolcndaaDoor
open Go.RowKit Go.ChangeShapes Go.WideShapes Go.ChangeAt Go.Deep Go.Joins

theorem add_none (b off i : Nat) : (⟨b, off, none⟩ : Addr).add i = ⟨b, off + i, none⟩ := by
  by_cases e : i = 0
  · subst e; rfl
  · simp [Addr.add, e]

theorem open_blks {H : Type} {enc : TypeId × Value → H} {W : World} {n : Nat} {v : Value} {y : DataW H × List MemPlace} (h : DataW.trod enc Tryd.prog W 0 (fun _ => true) true n 28 [v] = some y) :
    ∃ a cap bs, v = .slice a (List.length bs) cap ∧ BRowsAt W a cap bs := by
  rcases Deep.open_slice_pairs Tryd.underlying28 Tryd.underlying78 (by kernel_rfl) rfl rfl (by kernel_rfl) (by kernel_rfl) h with ⟨hcs, _⟩ | ⟨a, len, cap, m, nn, V0, V1, D0, D1, P0, P1, hcs, _, hl, hm, hmm, _, hx⟩
  · simp at hcs
    subst hcs
    exact ⟨none, 0, [], rfl, BRowsAt.nil W⟩
  · simp at hcs
    subst hcs
    have hlm : len ≤ m := by rw [hmm]; simp; exact hl
    have hi : ∀ i, i < m → ∃ x : Blk, W.cell? (a.add (i * 2)) = some (.bool x.1) ∧ ∃ u, W.cell? (a.add (i * 2 + 1)) = some u ∧ Row W u x.2 := by
      intro i hi
      obtain ⟨c0, c1, t0, t1⟩ := hx i hi
      obtain ⟨z0, e0, _⟩ := DataW.trod_bool Tryd.underlying4 t0
      simp only [List.cons.injEq, and_true] at e0
      rcases open_ints Tryd.underlying22 Tryd.underlying3 cellsInt t1 with ⟨hcs, _⟩ | ⟨x, l, c, zs, hcs, _, hl, hm, hz, _, hcell, hwz⟩
      · simp only [List.cons.injEq, and_true] at hcs
        exact ⟨(z0, []), by rw [c0, e0], _, c1, none, 0, by rw [hcs]; rfl, ⟨Nat.le_refl _, by unfold maxLen; omega, .inl rfl⟩⟩
      · simp only [List.cons.injEq, and_true] at hcs
        obtain ⟨xs, hx, hr, hb⟩ := rowOf (.inr ⟨x, rfl, hl, hm, by simpa using hz, hcell, hwz⟩)
        exact ⟨(z0, xs), by rw [c0, e0], _, c1, some x, c, by rw [hcs, hx], hr⟩
    let f : Nat → Blk := fun i => if h : i < m then Classical.choose (hi i h) else blk0
    have hf : ∀ i, i < m → W.cell? (a.add (i * 2)) = some (.bool (f i).1) ∧ ∃ u, W.cell? (a.add (i * 2 + 1)) = some u ∧ Row W u (f i).2 := by
      intro i h
      have := Classical.choose_spec (hi i h)
      show _ ∧ _
      simp only [f, dif_pos h]
      exact this
    clear_value f
    refine ⟨some a, cap, (List.range len).map f, by simp, ⟨by simpa using hl, hm, ?_⟩⟩
    rcases Nat.eq_zero_or_pos len with h0 | h0
    · left; simp [h0]
    · right
      obtain ⟨b, off, spot⟩ := a
      have h1 := (hf 0 (by omega)).1
      have hs : spot = none := by simpa [Addr.add] using World.cell?_spot h1
      subst hs
      refine ⟨b, off, rfl, World.block_lt_of_cell? W _ h1, fun i hi => ?_⟩
      have hi' : i < len := by simpa using hi
      have hg : ((List.range len).map f).getD i blk0 = f i := by simp [List.getD, hi']
      obtain ⟨k1, u, k2, k3⟩ := hf i (by omega)
      rw [add_none] at k1 k2
      rw [hg]
      exact ⟨k1, u, k2, k3⟩

/-- The weights of a formula's clauses are among the formula's. -/
theorem fm_weights {H : Type} {b x y : DataW H} {m : Nat} (h : m ∈ y.weights Tryd.prog 24) : m ∈ (DataW.agg [b, .agg [x, y]]).weights Tryd.prog 32 := by
  have h2 : m ∈ (DataW.agg [x, y]).weights Tryd.prog 30 := by
    simp only [DataW.weights, Tryd.underlying30]
    simpa [DataW.weightsEach] using Or.inr h
  simp only [DataW.weights, Tryd.underlying32]
  simpa [DataW.weightsEach] using Or.inr h2

theorem cellsFm : Tryd.prog.cellsOf 32 = 3 := by kernel_rfl
theorem cellsCn : Tryd.prog.cellsOf 30 = 2 := by kernel_rfl
theorem cellsBs : Tryd.prog.cellsOf 28 = 1 := by kernel_rfl
theorem cellsRs : Tryd.prog.cellsOf 24 = 1 := by kernel_rfl
set_option maxRecDepth 100000 in
theorem open_formula {H : Type} {enc : TypeId × Value → H} {W : World} {base : Nat} {v : Value} {d : DataW H} {p : List MemPlace} (hv : Value.okWide Tryd.prog W .any base 32 v) (h : DataW.Trod enc Tryd.prog W 0 (fun _ => true) true 32 v d p) :
    ∃ q dd bs vars a cap xss, v = .agg #[.slice q (List.length bs) dd, .int .i64 vars, .slice a (List.length xss) cap] ∧ BRowsAt W q dd bs ∧ RowsAt W a cap xss ∧ (-9223372036854775808 ≤ vars ∧ vars ≤ 9223372036854775807) ∧
      (∀ xs ∈ xss, ∀ z ∈ xs, -9223372036854775808 ≤ z ∧ z ≤ 9223372036854775807) ∧ ((∀ m ∈ d.weights Tryd.prog 32, m ≤ reachBytes) → ∀ xs ∈ xss, xs.length ≤ 140737488355328) := by
  obtain ⟨cs, rfl, hsz⟩ := okWide_struct Tryd.underlying32 hv
  obtain ⟨c0, c1, c2, rfl⟩ := array3 (hsz.trans cellsFm)
  obtain ⟨fuel, hf⟩ := h
  obtain ⟨y0, y1, n, hx, _, h0, h1⟩ := trod_struct2 Tryd.underlying32 hf
  simp only [Prod.mk.injEq] at hx
  obtain ⟨rfl, rfl⟩ := hx
  have h0' : DataW.trod enc Tryd.prog W 0 (fun _ => true) true n 28 [c0] = some y0 := by simpa [Value.cells, cellsBs] using h0
  have h1' : DataW.trod enc Tryd.prog W 0 (fun _ => true) true n 30 [c1, c2] = some y1 := by simpa [Value.cells, cellsCn] using h1
  clear h0 h1
  obtain ⟨z0, z1, n', hx, _, g0, g1⟩ := trod_struct2 Tryd.underlying30 h1'
  have g0' : DataW.trod enc Tryd.prog W 0 (fun _ => true) true n' 3 [c1] = some z0 := by simpa [cellsInt] using g0
  have g1' : DataW.trod enc Tryd.prog W 0 (fun _ => true) true n' 24 [c2] = some z1 := by simpa [cellsRs] using g1
  clear g0 g1 h1'
  obtain ⟨y1a, y1b⟩ := y1
  simp only [Prod.mk.injEq] at hx
  obtain ⟨rfl, rfl⟩ := hx
  obtain ⟨q, dd, bs, rfl, hB⟩ := open_blks h0'
  obtain ⟨vars, e, _, wv⟩ := DataW.trod_int Tryd.underlying3 g0'
  simp only [List.cons.injEq, and_true] at e
  subst e
  obtain ⟨a, cap, xss, rfl, hR, hRb, hRl⟩ := open_rows g1'
  exact ⟨q, dd, bs, vars, a, cap, xss, rfl, hB, hR, bounds_i64 wv, hRb, fun hw => hRl fun m hm => hw m (fm_weights hm)⟩
end Go.Proofs.YtjpchjbpolcndaaDoor
