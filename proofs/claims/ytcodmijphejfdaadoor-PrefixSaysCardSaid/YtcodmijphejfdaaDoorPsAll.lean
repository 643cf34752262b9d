/- From the way in which an argument is handed over (a row of ints in memory) to 'RowAt'. No conditions beyond those typed. · From the way in which an argument is handed over (a row of ints, a slice of such rows) to 'RowAt', 'RowsAt', with the rows' bounds and the reach. No conditions beyond those typed. · From the way in which a formula is handed over as an argument (blocks, variables, clauses) to 'BRowsAt', 'RowsAt', with the bounds and the reach. No conditions beyond those typed. · As OpenFm, the blocks' variables' bounds besides. No conditions beyond those typed. · For the document's own skolemref1.Norm2: the blocks put in a row; its places; its result, read back; what it answers. No conditions beyond those typed. · The contract of the document's own skolemref1.Norm2 (the walk, a fault of the formula). Conditions: the formula reads as blocks and clauses, few and short ones. · The contract of the document's own skolemref1.Norm2 (the walk, no fault of the formula). Conditions: the formula reads as blocks and clauses, few and short ones. · The contract of the document's own skolemref1.Norm2, whole. Conditions: the formula reads as blocks and clauses, few and short ones. · For the law PrefixSays: the program's and the document's answers meet; what a light formula is. Conditions: those typed. · The law PrefixSays: true for whatever formula. Conditions: the formula reads as lists of 64-bit ints, their reach as it is; the errors lie as 'Sents' says. -/
import Derived.Test.YtcodmijphejfdaaDoorBase
import Derived.OpenShut
import Derived.Test.YtcodmijphejfdaaDoorCheckP
import Derived.Test.YtcodmijphejfdaaDoorRows
import Derived.Deep.Matrix
import Derived.SizedLaws
import Derived.Lib.SmallJoins
import Derived.Test.YtcodmijphejfdaaDoorBlkM
import Derived.Deep.SlicePairs
import Derived.Test.YtcodmijphejfdaaDoorNormS
import Derived.Test.YtcodmijphejfdaaDoorChkRF
import Derived.Test.YtcodmijphejfdaaDoorRefFr
import Derived.Test.YtcodmijphejfdaaDoorRefMg
import Derived.Test.YtcodmijphejfdaaDoorFault
import Derived.Test.YtcodmijphejfdaaDoorNormZ
import Derived.Test.YtcodmijphejfdaaDoorLight
import Derived.Test.YtcodmijphejfdaaDoorSmG
import Derived.Test.YtcodmijphejfdaaDoorErrRA
import Derived.Deep.RegionHeld3
namespace Go.Proofs.YtcodmijphejfdaaDoor
open Go.RowKit

theorem rowOf {w : World} {a : Option Addr} {len cap : Nat} {zs : List Int}
    (h : (a = none ∧ len = 0 ∧ cap = 0 ∧ zs = []) ∨ ∃ x, a = some x ∧ len ≤ cap ∧ cap ≤ maxLen ∧ zs.length = cap ∧ (∀ i, i < zs.length → w.cell? (x.add i) = some (.int .i64 (zs.getD i 0))) ∧ ∀ n ∈ zs, (Lit.int .i64 n).wf = true) :
    ∃ xs : List Int, xs.length = len ∧ RowAt w a cap xs ∧ ∀ y ∈ xs, -9223372036854775808 ≤ y ∧ y ≤ 9223372036854775807 := by
  rcases h with ⟨rfl, rfl, rfl, rfl⟩ | ⟨x, rfl, hl, hm, hz, hc, hw⟩
  · exact ⟨[], rfl, ⟨by simp, by unfold maxLen; omega, .inl rfl⟩, by simp⟩
  · refine ⟨zs.take len, by simp; omega, ⟨by simp; omega, hm, ?_⟩, fun y hy => bounds_i64 (hw y (List.mem_of_mem_take hy))⟩
    by_cases h0 : len = 0
    · left; simp [h0]
    · right
      obtain ⟨b, off, spot⟩ := x
      have h1 := hc 0 (by omega)
      have hs : spot = none := by simpa [Addr.add] using World.cell?_spot h1
      subst hs
      refine ⟨b, off, rfl, World.block_lt_of_cell? w _ h1, fun i hi => ?_⟩
      have hi' : i < len := by simp at hi; omega
      have h2 := hc i (by omega)
      have he : (⟨b, off, none⟩ : Addr).add i = ⟨b, off + i, none⟩ := by
        by_cases e : i = 0
        · subst e; rfl
        · simp [Addr.add, e]
      rw [he] at h2
      rw [h2]
      simp [List.getD, hi']
end Go.Proofs.YtcodmijphejfdaaDoor

namespace Go.Proofs.YtcodmijphejfdaaDoor
open Go.RowKit Go.ChangeShapes Go.WideShapes Go.ChangeAt Go.Deep Go.Joins

theorem cellsInt : Tryd.prog.cellsOf 3 = 1 := by kernel_rfl
theorem cellsInts : Tryd.prog.cellsOf 30 = 1 := by kernel_rfl
theorem bytesInt : Tryd.prog.bytesOf 3 = 8 := by kernel_rfl

set_option maxRecDepth 100000 in
theorem open_row {H : Type} {enc : TypeId × Value → H} {W : World} {base : Nat} {v : Value} {d : DataW H} {p : List MemPlace} (hv : Value.okWide Tryd.prog W .any base 30 v) (h : DataW.Trod enc Tryd.prog W 0 (fun _ => true) true 30 v d p) :
    ∃ a cap xs, v = .slice a (List.length xs) cap ∧ RowAt W a cap xs ∧ ∀ y ∈ xs, -9223372036854775808 ≤ y ∧ y ≤ 9223372036854775807 := by
  obtain ⟨a0, len0, cap0, rfl⟩ := okWide_slice Tryd.underlying30 hv
  obtain ⟨fuel, hf⟩ := h
  rcases open_ints Tryd.underlying30 Tryd.underlying3 cellsInt hf with ⟨hcs, _⟩ | ⟨x, l, c, zs, hcs, _, hl, hm, hz, _, hcell, hwz⟩
  · simp [Value.cells] at hcs
    obtain ⟨rfl, rfl, rfl⟩ := hcs
    exact ⟨none, 0, [], rfl, ⟨Nat.le_refl _, by unfold maxLen; omega, .inl rfl⟩, by simp⟩
  · simp [Value.cells] at hcs
    obtain ⟨rfl, rfl, rfl⟩ := hcs
    obtain ⟨xs, hx, hr, hb⟩ := rowOf (.inr ⟨x, rfl, hl, hm, by simpa using hz, hcell, hwz⟩)
    exact ⟨some x, cap0, xs, by rw [hx], hr, hb⟩

theorem weightsAll_mem' {H : Type} {P : Program} {e : TypeId} : ∀ {l : List (DataW H)} {d : DataW H}, d ∈ l → ∀ n ∈ d.weights P e, n ∈ DataW.weightsAll P e l
  | d' :: r, d, hd, n, hn => by
    simp only [DataW.weightsAll, List.mem_append]
    rcases List.mem_cons.1 hd with rfl | h
    · exact Or.inl hn
    · exact Or.inr (weightsAll_mem' h n hn)

theorem open_rows {H : Type} {enc : TypeId × Value → H} {W : World} {n : Nat} {v : Value} {y : DataW H × List MemPlace} (h : DataW.trod enc Tryd.prog W 0 (fun _ => true) true n 23 [v] = some y) :
    ∃ a cap xss, v = .slice a (List.length xss) cap ∧ RowsAt W a cap xss ∧ (∀ xs ∈ xss, ∀ z ∈ xs, -9223372036854775808 ≤ z ∧ z ≤ 9223372036854775807) ∧
      ((∀ m ∈ y.1.weights Tryd.prog 23, m ≤ reachBytes) → ∀ xs ∈ xss, xs.length ≤ 140737488355328) := by
  rcases open_int_rows Tryd.underlying23 Tryd.underlying30 Tryd.underlying3 cellsInts cellsInt h with ⟨hcs, _⟩ | ⟨a, len, cap, Af, L, C, Z, hcs, _, hl, hm, hx, hr⟩
  · simp at hcs
    subst hcs
    exact ⟨none, 0, [], rfl, ⟨Nat.le_refl _, by unfold maxLen; omega, .inl rfl⟩, by simp, by simp⟩
  · simp at hcs
    subst hcs
    have hgt : ∀ i, i < len → (((List.range len).map fun r => (Z r).take (L r)).getD i []) = (Z i).take (L i) := fun i hi => by simp [List.getD, hi]
    refine ⟨some a, cap, (List.range len).map fun r => (Z r).take (L r), by simp, ⟨by simpa using hl, hm, ?_⟩, ?_, ?_⟩
    · rcases Nat.eq_zero_or_pos len with h0 | h0
      · left; simp [h0]
      · right
        obtain ⟨b, off, spot⟩ := a
        have h1 := (hr 0 (by omega)).1
        have hs : spot = none := by simpa [Addr.add] using World.cell?_spot h1
        subst hs
        have he : ∀ (b off i : Nat), (⟨b, off, none⟩ : Addr).add i = ⟨b, off + i, none⟩ := fun b off i => by
          by_cases e : i = 0
          · subst e; rfl
          · simp [Addr.add, e]
        refine ⟨b, off, rfl, World.block_lt_of_cell? W _ h1, fun i hi => ?_⟩
        have hi' : i < len := by simpa using hi
        obtain ⟨c1, c2, c3, c4, c5, c6, c7⟩ := hr i (by omega)
        rw [he] at c1
        refine ⟨_, c1, ?_⟩
        rw [hgt i hi']
        have hlen : ((Z i).take (L i)).length = L i := by simp; omega
        refine ⟨Af i, C i, by rw [hlen], by omega, c3, ?_⟩
        cases ha : Af i with
        | none => left; have := c6 ha; omega
        | some a' =>
          by_cases hz : L i = 0
          · left; omega
          · right
            obtain ⟨_, c8⟩ := c7 a' ha
            obtain ⟨b', off', spot'⟩ := a'
            have h2 := c8 0 (by omega)
            have hs : spot' = none := by simpa [Addr.add] using World.cell?_spot h2
            subst hs
            refine ⟨b', off', rfl, World.block_lt_of_cell? W _ h2, fun j hj => ?_⟩
            have hj' : j < L i := by omega
            have h3 := c8 j (by omega)
            rw [he] at h3
            rw [h3]
            simp [List.getD, hj']
    · intro xs hxs z hz
      obtain ⟨r, hr', rfl⟩ := List.mem_map.1 hxs
      have hrl : r < len := by simpa using hr'
      obtain ⟨_, _, _, _, c5, _⟩ := hr r (by omega)
      exact bounds_i64 (c5 z (List.mem_of_mem_take hz))
    · intro hw xs hxs
      obtain ⟨r, hr', rfl⟩ := List.mem_map.1 hxs
      have hrl : r < len := by simpa using hr'
      obtain ⟨_, c2, _, c4, _, c6, _⟩ := hr r (by omega)
      have hle : ((Z r).take (L r)).length = L r := by simp; omega
      rw [hle]
      cases ha : Af r with
      | none => have := c6 ha; omega
      | some a' =>
        have hmem : (L r + (C r - L r)) * 8 ∈ y.1.weights Tryd.prog 23 := by
          rw [hx]
          simp only [DataW.weights, Tryd.underlying23, List.mem_cons, List.mem_append]
          refine .inr (.inl (weightsAll_mem' (d := intRow .i64 (Af r) (L r) (Z r)) (List.mem_map.2 ⟨r, by simpa using hrl, rfl⟩) _ ?_))
          rw [ha]
          simp [intRow, DataW.weights, Tryd.underlying30, bytesInt, lits]
          left
          omega
        have := hw _ hmem
        have hrb : reachBytes = 140737488351232 := rfl
        omega

/-- The weights of a formula's clauses are among the formula's. -/
theorem cnf_weights {H : Type} {x y : DataW H} {m : Nat} (h : m ∈ y.weights Tryd.prog 23) : m ∈ (DataW.agg [x, y]).weights Tryd.prog 25 := by
  simp only [DataW.weights, Tryd.underlying25]
  simpa [DataW.weightsEach] using Or.inr h
end Go.Proofs.YtcodmijphejfdaaDoor

namespace Go.Proofs.YtcodmijphejfdaaDoor
open Go.RowKit Go.ChangeShapes Go.WideShapes Go.ChangeAt Go.Deep Go.Joins

theorem add_none (b off i : Nat) : (⟨b, off, none⟩ : Addr).add i = ⟨b, off + i, none⟩ := by
  by_cases e : i = 0
  · subst e; rfl
  · simp [Addr.add, e]

theorem open_blks {H : Type} {enc : TypeId × Value → H} {W : World} {n : Nat} {v : Value} {y : DataW H × List MemPlace} (h : DataW.trod enc Tryd.prog W 0 (fun _ => true) true n 22 [v] = some y) :
    ∃ a cap bs, v = .slice a (List.length bs) cap ∧ BRowsAt W a cap bs := by
  rcases Deep.open_slice_pairs Tryd.underlying22 Tryd.underlying58 (by kernel_rfl) rfl rfl (by kernel_rfl) (by kernel_rfl) h with ⟨hcs, _⟩ | ⟨a, len, cap, m, nn, V0, V1, D0, D1, P0, P1, hcs, _, hl, hm, hmm, _, hx⟩
  · simp at hcs
    subst hcs
    exact ⟨none, 0, [], rfl, BRowsAt.nil W⟩
  · simp at hcs
    subst hcs
    have hlm : len ≤ m := by rw [hmm]; simp; exact hl
    have hi : ∀ i, i < m → ∃ x : Blk, W.cell? (a.add (i * 2)) = some (.bool x.1) ∧ ∃ u, W.cell? (a.add (i * 2 + 1)) = some u ∧ Row W u x.2 := by
      intro i hi
      obtain ⟨c0, c1, t0, t1⟩ := hx i hi
      obtain ⟨z0, e0, _⟩ := DataW.trod_bool Tryd.underlying4 t0
      simp only [List.cons.injEq, and_true] at e0
      rcases open_ints Tryd.underlying30 Tryd.underlying3 cellsInt t1 with ⟨hcs, _⟩ | ⟨x, l, c, zs, hcs, _, hl, hm, hz, _, hcell, hwz⟩
      · simp only [List.cons.injEq, and_true] at hcs
        exact ⟨(z0, []), by rw [c0, e0], _, c1, none, 0, by rw [hcs]; rfl, ⟨Nat.le_refl _, by unfold maxLen; omega, .inl rfl⟩⟩
      · simp only [List.cons.injEq, and_true] at hcs
        obtain ⟨xs, hx, hr, hb⟩ := rowOf (.inr ⟨x, rfl, hl, hm, by simpa using hz, hcell, hwz⟩)
        exact ⟨(z0, xs), by rw [c0, e0], _, c1, some x, c, by rw [hcs, hx], hr⟩
    let f : Nat → Blk := fun i => if h : i < m then Classical.choose (hi i h) else blk0
    have hf : ∀ i, i < m → W.cell? (a.add (i * 2)) = some (.bool (f i).1) ∧ ∃ u, W.cell? (a.add (i * 2 + 1)) = some u ∧ Row W u (f i).2 := by
      intro i h
      have := Classical.choose_spec (hi i h)
      show _ ∧ _
      simp only [f, dif_pos h]
      exact this
    clear_value f
    refine ⟨some a, cap, (List.range len).map f, by simp, ⟨by simpa using hl, hm, ?_⟩⟩
    rcases Nat.eq_zero_or_pos len with h0 | h0
    · left; simp [h0]
    · right
      obtain ⟨b, off, spot⟩ := a
      have h1 := (hf 0 (by omega)).1
      have hs : spot = none := by simpa [Addr.add] using World.cell?_spot h1
      subst hs
      refine ⟨b, off, rfl, World.block_lt_of_cell? W _ h1, fun i hi => ?_⟩
      have hi' : i < len := by simpa using hi
      have hg : ((List.range len).map f).getD i blk0 = f i := by simp [List.getD, hi']
      obtain ⟨k1, u, k2, k3⟩ := hf i (by omega)
      rw [add_none] at k1 k2
      rw [hg]
      exact ⟨k1, u, k2, k3⟩

/-- The weights of a formula's clauses are among the formula's. -/
theorem fm_weights {H : Type} {b x y : DataW H} {m : Nat} (h : m ∈ y.weights Tryd.prog 23) : m ∈ (DataW.agg [b, .agg [x, y]]).weights Tryd.prog 27 := by
  have h2 : m ∈ (DataW.agg [x, y]).weights Tryd.prog 25 := by
    simp only [DataW.weights, Tryd.underlying25]
    simpa [DataW.weightsEach] using Or.inr h
  simp only [DataW.weights, Tryd.underlying27]
  simpa [DataW.weightsEach] using Or.inr h2

theorem cellsFm : Tryd.prog.cellsOf 27 = 3 := by kernel_rfl
theorem cellsCn : Tryd.prog.cellsOf 25 = 2 := by kernel_rfl
theorem cellsBs : Tryd.prog.cellsOf 22 = 1 := by kernel_rfl
theorem cellsRs : Tryd.prog.cellsOf 23 = 1 := by kernel_rfl
set_option maxRecDepth 100000 in
theorem open_formula {H : Type} {enc : TypeId × Value → H} {W : World} {base : Nat} {v : Value} {d : DataW H} {p : List MemPlace} (hv : Value.okWide Tryd.prog W .any base 27 v) (h : DataW.Trod enc Tryd.prog W 0 (fun _ => true) true 27 v d p) :
    ∃ q dd bs vars a cap xss, v = .agg #[.slice q (List.length bs) dd, .int .i64 vars, .slice a (List.length xss) cap] ∧ BRowsAt W q dd bs ∧ RowsAt W a cap xss ∧ (-9223372036854775808 ≤ vars ∧ vars ≤ 9223372036854775807) ∧
      (∀ xs ∈ xss, ∀ z ∈ xs, -9223372036854775808 ≤ z ∧ z ≤ 9223372036854775807) ∧ ((∀ m ∈ d.weights Tryd.prog 27, m ≤ reachBytes) → ∀ xs ∈ xss, xs.length ≤ 140737488355328) := by
  obtain ⟨cs, rfl, hsz⟩ := okWide_struct Tryd.underlying27 hv
  obtain ⟨c0, c1, c2, rfl⟩ := array3 (hsz.trans cellsFm)
  obtain ⟨fuel, hf⟩ := h
  obtain ⟨y0, y1, n, hx, _, h0, h1⟩ := trod_struct2 Tryd.underlying27 hf
  simp only [Prod.mk.injEq] at hx
  obtain ⟨rfl, rfl⟩ := hx
  have h0' : DataW.trod enc Tryd.prog W 0 (fun _ => true) true n 22 [c0] = some y0 := by simpa [Value.cells, cellsBs] using h0
  have h1' : DataW.trod enc Tryd.prog W 0 (fun _ => true) true n 25 [c1, c2] = some y1 := by simpa [Value.cells, cellsCn] using h1
  clear h0 h1
  obtain ⟨z0, z1, n', hx, _, g0, g1⟩ := trod_struct2 Tryd.underlying25 h1'
  have g0' : DataW.trod enc Tryd.prog W 0 (fun _ => true) true n' 3 [c1] = some z0 := by simpa [cellsInt] using g0
  have g1' : DataW.trod enc Tryd.prog W 0 (fun _ => true) true n' 23 [c2] = some z1 := by simpa [cellsRs] using g1
  clear g0 g1 h1'
  obtain ⟨y1a, y1b⟩ := y1
  simp only [Prod.mk.injEq] at hx
  obtain ⟨rfl, rfl⟩ := hx
  obtain ⟨q, dd, bs, rfl, hB⟩ := open_blks h0'
  obtain ⟨vars, e, _, wv⟩ := DataW.trod_int Tryd.underlying3 g0'
  simp only [List.cons.injEq, and_true] at e
  subst e
  obtain ⟨a, cap, xss, rfl, hR, hRb, hRl⟩ := open_rows g1'
  exact ⟨q, dd, bs, vars, a, cap, xss, rfl, hB, hR, bounds_i64 wv, hRb, fun hw => hRl fun m hm => hw m (fm_weights hm)⟩
end Go.Proofs.YtcodmijphejfdaaDoor

namespace Go.Proofs.YtcodmijphejfdaaDoor
open Go.RowKit Go.ChangeShapes Go.WideShapes Go.ChangeAt Go.Deep Go.Joins

theorem open_blksB {H : Type} {enc : TypeId × Value → H} {W : World} {n : Nat} {v : Value} {y : DataW H × List MemPlace} (h : DataW.trod enc Tryd.prog W 0 (fun _ => true) true n 22 [v] = some y) :
    ∃ a cap bs, v = .slice a (List.length bs) cap ∧ BRowsAt W a cap bs ∧ ∀ b ∈ bs, ∀ z ∈ b.2, -9223372036854775808 ≤ z ∧ z ≤ 9223372036854775807 := by
  rcases Deep.open_slice_pairs Tryd.underlying22 Tryd.underlying58 (by kernel_rfl) rfl rfl (by kernel_rfl) (by kernel_rfl) h with ⟨hcs, _⟩ | ⟨a, len, cap, m, nn, V0, V1, D0, D1, P0, P1, hcs, _, hl, hm, hmm, _, hx⟩
  · simp at hcs
    subst hcs
    exact ⟨none, 0, [], rfl, BRowsAt.nil W, by simp⟩
  · simp at hcs
    subst hcs
    have hlm : len ≤ m := by rw [hmm]; simp; exact hl
    have hi : ∀ i, i < m → ∃ x : Blk, W.cell? (a.add (i * 2)) = some (.bool x.1) ∧ (∃ u, W.cell? (a.add (i * 2 + 1)) = some u ∧ Row W u x.2) ∧ ∀ z ∈ x.2, -9223372036854775808 ≤ z ∧ z ≤ 9223372036854775807 := by
      intro i hi
      obtain ⟨c0, c1, t0, t1⟩ := hx i hi
      obtain ⟨z0, e0, _⟩ := DataW.trod_bool Tryd.underlying4 t0
      simp only [List.cons.injEq, and_true] at e0
      rcases open_ints Tryd.underlying30 Tryd.underlying3 cellsInt t1 with ⟨hcs, _⟩ | ⟨x, l, c, zs, hcs, _, hl, hm, hz, _, hcell, hwz⟩
      · simp only [List.cons.injEq, and_true] at hcs
        exact ⟨(z0, []), by rw [c0, e0], ⟨_, c1, none, 0, by rw [hcs]; rfl, ⟨Nat.le_refl _, by unfold maxLen; omega, .inl rfl⟩⟩, by simp⟩
      · simp only [List.cons.injEq, and_true] at hcs
        obtain ⟨xs, hx, hr, hb⟩ := rowOf (.inr ⟨x, rfl, hl, hm, by simpa using hz, hcell, hwz⟩)
        exact ⟨(z0, xs), by rw [c0, e0], ⟨_, c1, some x, c, by rw [hcs, hx], hr⟩, hb⟩
    let f : Nat → Blk := fun i => if h : i < m then Classical.choose (hi i h) else blk0
    have hf : ∀ i, i < m → W.cell? (a.add (i * 2)) = some (.bool (f i).1) ∧ (∃ u, W.cell? (a.add (i * 2 + 1)) = some u ∧ Row W u (f i).2) ∧ ∀ z ∈ (f i).2, -9223372036854775808 ≤ z ∧ z ≤ 9223372036854775807 := by
      intro i h
      have := Classical.choose_spec (hi i h)
      show _ ∧ _
      simp only [f, dif_pos h]
      exact this
    clear_value f
    refine ⟨some a, cap, (List.range len).map f, by simp, ⟨by simpa using hl, hm, ?_⟩, fun b hb => by
      obtain ⟨i, hi, rfl⟩ := List.mem_map.1 hb
      exact (hf i (by have := List.mem_range.1 hi; omega)).2.2⟩
    rcases Nat.eq_zero_or_pos len with h0 | h0
    · left; simp [h0]
    · right
      obtain ⟨b, off, spot⟩ := a
      have h1 := (hf 0 (by omega)).1
      have hs : spot = none := by simpa [Addr.add] using World.cell?_spot h1
      subst hs
      refine ⟨b, off, rfl, World.block_lt_of_cell? W _ h1, fun i hi => ?_⟩
      have hi' : i < len := by simpa using hi
      have hg : ((List.range len).map f).getD i blk0 = f i := by simp [List.getD, hi']
      obtain ⟨k1, ⟨u, k2, k3⟩, _⟩ := hf i (by omega)
      rw [add_none] at k1 k2
      rw [hg]
      exact ⟨k1, u, k2, k3⟩

set_option maxRecDepth 100000 in
theorem open_formulaB {H : Type} {enc : TypeId × Value → H} {W : World} {base : Nat} {v : Value} {d : DataW H} {p : List MemPlace} (hv : Value.okWide Tryd.prog W .any base 27 v) (h : DataW.Trod enc Tryd.prog W 0 (fun _ => true) true 27 v d p) :
    ∃ q dd bs vars a cap xss, v = .agg #[.slice q (List.length bs) dd, .int .i64 vars, .slice a (List.length xss) cap] ∧ BRowsAt W q dd bs ∧ RowsAt W a cap xss ∧ (∀ b ∈ bs, ∀ z ∈ b.2, -9223372036854775808 ≤ z ∧ z ≤ 9223372036854775807) ∧ (-9223372036854775808 ≤ vars ∧ vars ≤ 9223372036854775807) ∧
      (∀ xs ∈ xss, ∀ z ∈ xs, -9223372036854775808 ≤ z ∧ z ≤ 9223372036854775807) ∧ ((∀ m ∈ d.weights Tryd.prog 27, m ≤ reachBytes) → ∀ xs ∈ xss, xs.length ≤ 140737488355328) := by
  obtain ⟨cs, rfl, hsz⟩ := okWide_struct Tryd.underlying27 hv
  obtain ⟨c0, c1, c2, rfl⟩ := array3 (hsz.trans cellsFm)
  obtain ⟨fuel, hf⟩ := h
  obtain ⟨y0, y1, n, hx, _, h0, h1⟩ := trod_struct2 Tryd.underlying27 hf
  simp only [Prod.mk.injEq] at hx
  obtain ⟨rfl, rfl⟩ := hx
  have h0' : DataW.trod enc Tryd.prog W 0 (fun _ => true) true n 22 [c0] = some y0 := by simpa [Value.cells, cellsBs] using h0
  have h1' : DataW.trod enc Tryd.prog W 0 (fun _ => true) true n 25 [c1, c2] = some y1 := by simpa [Value.cells, cellsCn] using h1
  clear h0 h1
  obtain ⟨z0, z1, n', hx, _, g0, g1⟩ := trod_struct2 Tryd.underlying25 h1'
  have g0' : DataW.trod enc Tryd.prog W 0 (fun _ => true) true n' 3 [c1] = some z0 := by simpa [cellsInt] using g0
  have g1' : DataW.trod enc Tryd.prog W 0 (fun _ => true) true n' 23 [c2] = some z1 := by simpa [cellsRs] using g1
  clear g0 g1 h1'
  obtain ⟨y1a, y1b⟩ := y1
  simp only [Prod.mk.injEq] at hx
  obtain ⟨rfl, rfl⟩ := hx
  obtain ⟨q, dd, bs, rfl, hB, hBb⟩ := open_blksB h0'
  obtain ⟨vars, e, _, wv⟩ := DataW.trod_int Tryd.underlying3 g0'
  simp only [List.cons.injEq, and_true] at e
  subst e
  obtain ⟨a, cap, xss, rfl, hR, hRb, hRl⟩ := open_rows g1'
  exact ⟨q, dd, bs, vars, a, cap, xss, rfl, hB, hR, hBb, bounds_i64 wv, hRb, fun hw => hRl fun m hm => hw m (fm_weights hm)⟩
end Go.Proofs.YtcodmijphejfdaaDoor

namespace Go.Proofs.YtcodmijphejfdaaDoor
open Go.RowKit

/-- What Norm2 answers. -/
def Norm2Post (w : World) (vars : Int) (bs : List Blk) (xss : List (List Int)) (e : Ending) (w' : World) : Prop :=
  ∃ gv c p k, e = .returned (.tuple #[gv, faultV c p k]) ∧ Below w.heap.size w w' ∧
    ((c ≠ 0 ∧ CheckFF vars bs xss c p k ∧ gv = zeroG) ∨
      (CheckFF vars bs xss 0 false 0 ∧ 2 < (gameL bs xss).length ∧ c = 105 ∧ p = false ∧ k = 0 ∧ gv = zeroG) ∨
      (CheckFF vars bs xss 0 false 0 ∧ (gameL bs xss).length ≤ 2 ∧ c = 0 ∧ p = false ∧ k = 0 ∧ GameV w' gv (exG (gameL bs xss)) (outG (gameL bs xss)) (inG (gameL bs xss)) xss))

theorem BFl.one1 {w : World} {v : Value} {l : List Int} (h : Row w v l) (e : Bool) : BFl w [.bool e, v] [(e, l)] := by
  refine ⟨rfl, fun u hu => ?_, fun j hj => ?_⟩
  · obtain ⟨a, c, rfl, _⟩ := h
    simp at hu
    rcases hu with rfl | rfl <;> rfl
  · have : j = 0 := by simp at hj; omega
    subst this
    exact ⟨rfl, v, rfl, h⟩
theorem own_two (w : World) (B : Nat) (E : TypeId) (x y : Value) (hB : B ≤ w.heap.size) : (w.alloc (.cells #[x, y] E)).ownsRow B E 2 (.slice (some ⟨w.heap.size, 0, none⟩) 1 1) 1 [x, y] :=
  ⟨by simp, .inr ⟨w.heap.size, 1, _, rfl, hB, heap_alloc_new w _, Nat.le_refl _, by unfold maxLen; omega, by simp, by simp⟩⟩
/-- The first block, then the others. -/
theorem nm2_rows {w W' : World} {fv : Value} {l : List Int} {fl : List Value} {bs : List Blk} {B n : Nat} {o : Value} (hf : Row w fv l) (hq : BFl w fl bs) (hW : Below w.heap.size w W') (ho : W'.ownsRow B 58 2 o n ([.bool true, fv] ++ fl)) : ∃ a cap, o = .slice a ((true, l) :: bs).length cap ∧ BRowsAt W' a cap ((true, l) :: bs) :=
  own_brows ho ((BFl.one1 (hf.keep hW) true).append (hq.keep hW))

def ftO : Obj := .cells #[.int .i64 0, .bool false, .int .i64 0] 38
def sets3 (w : World) (q : Nat) (v0 v1 v2 : Value) : World := ((w.setCell ⟨q, 0, none⟩ v0).setCell ⟨q, 1, none⟩ v1).setCell ⟨q, 2, none⟩ v2
section
variable {w w' : World} {q B : Nat} {v0 v1 v2 : Value}
theorem sets3_other : ∀ b j, b ≠ q → (sets3 w q v0 v1 v2).cell? ⟨b, j, none⟩ = w.cell? ⟨b, j, none⟩ := fun b j h => by
  unfold sets3
  have hne : ∀ k, (⟨q, k, none⟩ : Addr) ≠ ⟨b, j, none⟩ := fun k e => h (by injection e with e; exact e.symm)
  rw [World.cell?_setCell_other _ _ _ _ (hne 2), World.cell?_setCell_other _ _ _ _ (hne 1), World.cell?_setCell_other _ _ _ _ (hne 0)]
theorem sets3_same {u0 u1 u2 : Value} (h0 : w.cell? ⟨q, 0, none⟩ = some u0) (h1 : w.cell? ⟨q, 1, none⟩ = some u1) (h2 : w.cell? ⟨q, 2, none⟩ = some u2) (v0 v1 v2 : Value) :
    (sets3 w q v0 v1 v2).cell? ⟨q, 0, none⟩ = some v0 ∧ (sets3 w q v0 v1 v2).cell? ⟨q, 1, none⟩ = some v1 ∧ (sets3 w q v0 v1 v2).cell? ⟨q, 2, none⟩ = some v2 := by
  unfold sets3
  have hne : ∀ i j : Nat, i ≠ j → (⟨q, i, none⟩ : Addr) ≠ ⟨q, j, none⟩ := fun i j h e => h (by injection e)
  have o : ∀ (W : World) (i j : Nat) (v : Value), i ≠ j → (W.setCell ⟨q, i, none⟩ v).cell? ⟨q, j, none⟩ = W.cell? ⟨q, j, none⟩ := fun W i j v h => World.cell?_setCell_other _ _ _ _ (hne i j h)
  refine ⟨?_, ?_, ?_⟩
  · rw [o _ 2 0 _ (by decide), o _ 1 0 _ (by decide)]
    exact World.cell?_setCell_same _ _ _ h0
  · rw [o _ 2 1 _ (by decide)]
    exact World.cell?_setCell_same _ _ _ (by rw [o _ 0 1 _ (by decide)]; exact h1)
  · exact World.cell?_setCell_same _ _ _ (by rw [o _ 1 2 _ (by decide), o _ 0 2 _ (by decide)]; exact h2)
theorem sets3_below (h : Below B w w') (hq : B ≤ q) : Below B w (sets3 w' q v0 v1 v2) := ((h.setCell hq _).setCell hq _).setCell hq _
theorem sets3_own {E : TypeId} {s n : Nat} {v : Value} {xs : List Value} (h : w.ownsRow B E s v n xs) (hq : q < B) : (sets3 w q v0 v1 v2).ownsRow B E s v n xs :=
  ownsRow_setCell_below (ownsRow_setCell_below (ownsRow_setCell_below h (by simpa using hq) _) (by simpa using hq) _) (by simpa using hq) _
theorem sets3_size (w : World) (q : Nat) (v0 v1 v2 : Value) : (sets3 w q v0 v1 v2).heap.size = w.heap.size := by simp [sets3]
end
theorem results_cells2 {fn : Func} {p u : Tmp} {ty tu : TypeId} (h : fn.results = #[.cell p ty, .cell u tu]) (tmps : Array Value) (P : Program) (w : World) :
    (results fn tmps).run P w =
      ((asAddr (tmps.getD p undef)).run P w).andThen fun a w1 => ((loadVar ty a).run P w1).andThen fun v w2 => ((asAddr (tmps.getD u undef)).run P w2).andThen fun b w3 => ((loadVar tu b).run P w3).andThen fun v2 w4 => .ok (.tuple #[v, v2]) w4 := by
  simp only [results, h]
  simp [Sem.run_bind, Result.andThen]
theorem norm2_ret (W : World) (qb qf : Nat) (v0 v1 v2 v3 f0 f1 f2 : Value) (tmps : Array Value) (ht : tmps.getD 2 undef = .pointer (some ⟨qb, 0, none⟩)) (he : tmps.getD 3 undef = .pointer (some ⟨qf, 0, none⟩))
    (h : W.cell? ⟨qb, 0, none⟩ = some v0 ∧ W.cell? ⟨qb, 1, none⟩ = some v1 ∧ W.cell? ⟨qb, 2, none⟩ = some v2 ∧ W.cell? ⟨qb, 3, none⟩ = some v3) (k : W.cell? ⟨qf, 0, none⟩ = some f0 ∧ W.cell? ⟨qf, 1, none⟩ = some f1 ∧ W.cell? ⟨qf, 2, none⟩ = some f2) :
    (results Tryd.f8 tmps).run Tryd.prog W = .ok (.tuple #[.agg #[v0, v1, v2, v3], .agg #[f0, f1, f2]]) W := by
  obtain ⟨h0, h1, h2, h3⟩ := h
  obtain ⟨k0, k1, k2⟩ := k
  rw [results_cells2 Tryd.results8, ht, he]
  simp [go_sem, h0, h1, h2, h3, k0, k1, k2]

/-- The result's places behind the stores. -/
theorem nm2_same {W : World} {q1 q2 : Nat} {y0 y1 y2 y3 t0 t1 t2 : Value} (hne : q1 ≠ q2) (h : W.cell? ⟨q1, 0, none⟩ = some y0 ∧ W.cell? ⟨q1, 1, none⟩ = some y1 ∧ W.cell? ⟨q1, 2, none⟩ = some y2 ∧ W.cell? ⟨q1, 3, none⟩ = some y3) (k : W.cell? ⟨q2, 0, none⟩ = some t0 ∧ W.cell? ⟨q2, 1, none⟩ = some t1 ∧ W.cell? ⟨q2, 2, none⟩ = some t2) (v0 v1 v2 v3 f0 f1 f2 : Value) :
    ((sets3 (sets4 W q1 v0 v1 v2 v3) q2 f0 f1 f2).cell? ⟨q1, 0, none⟩ = some v0 ∧ (sets3 (sets4 W q1 v0 v1 v2 v3) q2 f0 f1 f2).cell? ⟨q1, 1, none⟩ = some v1 ∧ (sets3 (sets4 W q1 v0 v1 v2 v3) q2 f0 f1 f2).cell? ⟨q1, 2, none⟩ = some v2 ∧ (sets3 (sets4 W q1 v0 v1 v2 v3) q2 f0 f1 f2).cell? ⟨q1, 3, none⟩ = some v3) ∧
    ((sets3 (sets4 W q1 v0 v1 v2 v3) q2 f0 f1 f2).cell? ⟨q2, 0, none⟩ = some f0 ∧ (sets3 (sets4 W q1 v0 v1 v2 v3) q2 f0 f1 f2).cell? ⟨q2, 1, none⟩ = some f1 ∧ (sets3 (sets4 W q1 v0 v1 v2 v3) q2 f0 f1 f2).cell? ⟨q2, 2, none⟩ = some f2) := by
  obtain ⟨h0, h1, h2, h3⟩ := h
  obtain ⟨k0, k1, k2⟩ := k
  obtain ⟨a0, a1, a2, a3⟩ := sets4_same h0 h1 h2 h3 v0 v1 v2 v3
  exact ⟨⟨(sets3_other _ _ hne).trans a0, (sets3_other _ _ hne).trans a1, (sets3_other _ _ hne).trans a2, (sets3_other _ _ hne).trans a3⟩,
    sets3_same ((sets4_other _ _ hne.symm).trans k0) ((sets4_other _ _ hne.symm).trans k1) ((sets4_other _ _ hne.symm).trans k2) f0 f1 f2⟩
theorem nm2_row {W5 : World} {B q1 q2 : Nat} {o : Value} {ms : List Blk} {vs : List Value} (hm : MgG W5 B o ms vs) (h1 : q1 < B) (h2 : q2 < B) (v0 v1 v2 v3 f0 f1 f2 : Value) (j : Nat) : Row (sets3 (sets4 W5 q1 v0 v1 v2 v3) q2 f0 f1 f2) (vs.getD j nilV) (ms.getD j blk0).2 := by
  by_cases hj : j < ms.length
  · exact own_row (sets3_own (sets4_own (hm.row j hj) h1) h2)
  · have e1 : vs.getD j nilV = nilV := by simp [List.getD, List.getElem?_eq_none (show vs.length ≤ j by rw [hm.len]; omega)]
    have e2 : ms.getD j blk0 = blk0 := by simp [List.getD, List.getElem?_eq_none (Nat.le_of_not_lt hj)]
    rw [e1, e2]
    exact Row.nil _
theorem nm2_below {w W5 : World} {q1 q2 : Nat} {v0 v1 v2 v3 f0 f1 f2 : Value} (h : Below w.heap.size w W5) (h1 : w.heap.size ≤ q1) (h2 : w.heap.size ≤ q2) : Below w.heap.size w (sets3 (sets4 W5 q1 v0 v1 v2 v3) q2 f0 f1 f2) := sets3_below (sets4_below h h1) h2
theorem nm2_game {w W5 W0 : World} {B : Nat} {o : Value} {ms : List Blk} {vs : List Value} {a : Option Addr} {c : Nat} {xss : List (List Int)} {v0 v1 v2 v3 f0 f1 f2 : Value} (hm : MgG W5 B o ms vs) (hB : w.heap.size + 3 ≤ B) (h0 : Below (sets3 (sets4 W5 (w.heap.size + 1) v0 v1 v2 v3) (w.heap.size + 2) f0 f1 f2).heap.size (sets3 (sets4 W5 (w.heap.size + 1) v0 v1 v2 v3) (w.heap.size + 2) f0 f1 f2) W0) (hr : RowsAt W0 a c xss) (ex : Bool) (vo vi : Value) (hex : ex = exG ms) (hvo : vo = vs.getD 0 nilV) (hvi : vi = vs.getD 1 nilV) :
    GameV W0 (.agg #[.bool ex, vo, vi, .slice a xss.length c]) (exG ms) (outG ms) (inG ms) xss := by
  subst hex; subst hvo; subst hvi
  exact ⟨_, _, a, c, rfl, (nm2_row hm (by omega) (by omega) _ _ _ _ _ _ _ 0).keep h0, (nm2_row hm (by omega) (by omega) _ _ _ _ _ _ _ 1).keep h0, hr⟩
theorem hmg_alloc {w : World} {B : Nat} {o : Value} {ms : List Blk} {vs : List Value} (h : MgG w B o ms vs) (x : Obj) : MgG (w.alloc x) B o ms vs := h.keep ((Below.refl _ _).alloc (Nat.le_refl _) _)
theorem vars_few : ∀ (bs : List Blk), (∀ b ∈ bs, b.2.length ≤ 30) → (varsB bs).length ≤ 30 * bs.length
  | [], _ => by simp [varsB]
  | b :: bs, h => by
    have h1 := vars_few bs fun x hx => h x (List.mem_cons_of_mem _ hx)
    have h2 := h b (by simp)
    have e : varsB (b :: bs) = b.2 ++ varsB bs := by simp [varsB]
    rw [e, List.length_append, List.length_cons]
    omega
theorem flat_few : ∀ (xss : List (List Int)), (∀ xs ∈ xss, xs.length ≤ 1000000) → xss.flatten.length ≤ 1000000 * xss.length
  | [], _ => by simp
  | xs :: xss, h => by
    have h1 := flat_few xss fun x hx => h x (List.mem_cons_of_mem _ hx)
    have h2 := h xs (by simp)
    rw [List.flatten_cons, List.length_append, List.length_cons]
    omega
/-- The formula at hand and both results' places, seen from later worlds. -/
theorem nm2_box (w W : World) (q : Option Addr) (n d : Nat) (vars : Int) (a : Option Addr) (m c : Nat) (h : Below (((w.alloc (fmO q n d vars a m c)).alloc gmO).alloc ftO).heap.size (((w.alloc (fmO q n d vars a m c)).alloc gmO).alloc ftO) W) :
    (W.cell? ⟨w.heap.size, 0, none⟩ = some (.slice q n d) ∧ W.cell? ⟨w.heap.size, 1, none⟩ = some (.int .i64 vars) ∧ W.cell? ⟨w.heap.size, 2, none⟩ = some (.slice a m c)) ∧
    ((W.cell? ⟨w.heap.size + 1, 0, none⟩ = some (.bool false) ∧ W.cell? ⟨w.heap.size + 1, 1, none⟩ = some (.slice none 0 0) ∧ W.cell? ⟨w.heap.size + 1, 2, none⟩ = some (.slice none 0 0) ∧ W.cell? ⟨w.heap.size + 1, 3, none⟩ = some (.slice none 0 0)) ∧
      W.frozen? ⟨w.heap.size + 1, 0, none⟩ = false ∧ W.frozen? ⟨w.heap.size + 1, 1, none⟩ = false ∧ W.frozen? ⟨w.heap.size + 1, 2, none⟩ = false ∧ W.frozen? ⟨w.heap.size + 1, 3, none⟩ = false) ∧
    ((W.cell? ⟨w.heap.size + 2, 0, none⟩ = some (.int .i64 0) ∧ W.cell? ⟨w.heap.size + 2, 1, none⟩ = some (.bool false) ∧ W.cell? ⟨w.heap.size + 2, 2, none⟩ = some (.int .i64 0)) ∧
      W.frozen? ⟨w.heap.size + 2, 0, none⟩ = false ∧ W.frozen? ⟨w.heap.size + 2, 1, none⟩ = false ∧ W.frozen? ⟨w.heap.size + 2, 2, none⟩ = false) ∧ Below w.heap.size w W := by
  have hs : ((w.alloc (fmO q n d vars a m c)).alloc gmO).heap.size = w.heap.size + 2 := by simp
  obtain ⟨h1, h2, h3⟩ := norm_box w W q n d vars a m c (((Below.refl _ _).alloc (Nat.le_refl _) ftO).trans (h.mono (by simp)))
  have h4 := cells3 ((w.alloc (fmO q n d vars a m c)).alloc gmO) W _ _ _ _ h
  rw [hs] at h4
  have hf : ∀ j, W.frozen? ⟨w.heap.size + 2, j, none⟩ = false := fun j => by
    obtain ⟨_, hf⟩ := bcell h
    rw [hf _ _ (by simp)]
    exact World.frozen?_alloc_at _ _ _ _ (by simp)
  exact ⟨h1, h2, ⟨h4, hf 0, hf 1, hf 2⟩, h3⟩
end Go.Proofs.YtcodmijphejfdaaDoor

namespace Go.Proofs.YtcodmijphejfdaaDoor
open Go.RowKit

set_option maxHeartbeats 4000000 in
set_option maxRecDepth 100000 in
theorem norm2_bad (vars : Int) (q : Option Addr) (d : Nat) (bs : List Blk) (a : Option Addr) (c : Nat) (xss : List (List Int)) (w : World) (hv1 : -9223372036854775808 ≤ vars) (hv2 : vars ≤ 9223372036854775807) (hq : BRowsAt w q d bs) (hr : RowsAt w a c xss)
    (hint : ∀ xs ∈ xss, ∀ l ∈ xs, -9223372036854775807 ≤ l ∧ l ≤ 9223372036854775807) (hn : xss.length ≤ 60) (hlen : ∀ xs ∈ xss, xs.length ≤ 1000000) (hnb : bs.length ≤ 8) (hnv : ∀ b ∈ bs, b.2.length ≤ 30) (hne : ∃ c p k, CheckFF vars bs xss c p k ∧ c ≠ 0) :
    Calls Tryd.prog 8 #[.agg #[.slice q bs.length d, .int .i64 vars, .slice a xss.length c]] w (Norm2Post w vars bs xss) := by
  have HCK := Lib.hid (fun W (hW : Below w.heap.size w W) => refCheckF_any vars q d bs a c xss W hv1 hv2 (hq.keep hW) (hr.keep hW) hint hn hlen hnb hnv)
  have HBOX : Hid (∀ W, Below (((w.alloc (.cells #[.slice q bs.length d, .int .i64 vars, .slice a xss.length c] 27)).alloc (.cells #[.bool false, .slice none 0 0, .slice none 0 0, .slice none 0 0] 32)).alloc (.cells #[.int .i64 0, .bool false, .int .i64 0] 38)).heap.size (((w.alloc (.cells #[.slice q bs.length d, .int .i64 vars, .slice a xss.length c] 27)).alloc (.cells #[.bool false, .slice none 0 0, .slice none 0 0, .slice none 0 0] 32)).alloc (.cells #[.int .i64 0, .bool false, .int .i64 0] 38)) W →
      (W.cell? ⟨w.heap.size, 0, none⟩ = some (.slice q bs.length d) ∧ W.cell? ⟨w.heap.size, 1, none⟩ = some (.int .i64 vars) ∧ W.cell? ⟨w.heap.size, 2, none⟩ = some (.slice a xss.length c)) ∧
      ((W.cell? ⟨w.heap.size + 1, 0, none⟩ = some (.bool false) ∧ W.cell? ⟨w.heap.size + 1, 1, none⟩ = some (.slice none 0 0) ∧ W.cell? ⟨w.heap.size + 1, 2, none⟩ = some (.slice none 0 0) ∧ W.cell? ⟨w.heap.size + 1, 3, none⟩ = some (.slice none 0 0)) ∧
        W.frozen? ⟨w.heap.size + 1, 0, none⟩ = false ∧ W.frozen? ⟨w.heap.size + 1, 1, none⟩ = false ∧ W.frozen? ⟨w.heap.size + 1, 2, none⟩ = false ∧ W.frozen? ⟨w.heap.size + 1, 3, none⟩ = false) ∧
      ((W.cell? ⟨w.heap.size + 2, 0, none⟩ = some (.int .i64 0) ∧ W.cell? ⟨w.heap.size + 2, 1, none⟩ = some (.bool false) ∧ W.cell? ⟨w.heap.size + 2, 2, none⟩ = some (.int .i64 0)) ∧
        W.frozen? ⟨w.heap.size + 2, 0, none⟩ = false ∧ W.frozen? ⟨w.heap.size + 2, 1, none⟩ = false ∧ W.frozen? ⟨w.heap.size + 2, 2, none⟩ = false) ∧ Below w.heap.size w W) := fun W h => nm2_box w W q _ d vars a _ c h
  have HW3 : Hid (Below w.heap.size w (((w.alloc (.cells #[.slice q bs.length d, .int .i64 vars, .slice a xss.length c] 27)).alloc (.cells #[.bool false, .slice none 0 0, .slice none 0 0, .slice none 0 0] 32)).alloc (.cells #[.int .i64 0, .bool false, .int .i64 0] 38))) := (((Below.refl _ w).alloc (Nat.le_refl _) _).alloc (by simp) _).alloc (by simp; omega) _
  have HS3 : Hid ((((w.alloc (.cells #[.slice q bs.length d, .int .i64 vars, .slice a xss.length c] 27)).alloc (.cells #[.bool false, .slice none 0 0, .slice none 0 0, .slice none 0 0] 32)).alloc (.cells #[.int .i64 0, .bool false, .int .i64 0] 38)).heap.size = w.heap.size + 3) := by unfold Hid; simp
  have HPOST := Lib.hid (show ∀ e w', (∃ gv c p k, e = .returned (.tuple #[gv, faultV c p k]) ∧ Below w.heap.size w w' ∧
    ((c ≠ 0 ∧ CheckFF vars bs xss c p k ∧ gv = zeroG) ∨
      (CheckFF vars bs xss 0 false 0 ∧ 2 < (gameL bs xss).length ∧ c = 105 ∧ p = false ∧ k = 0 ∧ gv = zeroG) ∨
      (CheckFF vars bs xss 0 false 0 ∧ (gameL bs xss).length ≤ 2 ∧ c = 0 ∧ p = false ∧ k = 0 ∧ GameV w' gv (exG (gameL bs xss)) (outG (gameL bs xss)) (inG (gameL bs xss)) xss))) → Norm2Post w vars bs xss e w' from fun e w' h => h)
  unfold ChkRPost at HCK
  unfold faultV at *
  clear hq hr hint hlen hn hnb hnv
  generalize hP : Norm2Post w vars bs xss = P at *
  clear hP
  have HZ : Hid (∀ c p k, CheckFF vars bs xss c p k → c ≠ 0) := fun c p k h => by
    obtain ⟨c', p', k', h1, h2⟩ := hne
    rw [(checkFF_same h h1).1] at h2
    exact h2
  clear hne
  generalize bs.length = n at *
  generalize xss.length = m at *
  have HBAD : Hid (∀ W0 c p k, Below w.heap.size w W0 → c ≠ 0 → CheckFF vars bs xss c p k →
      P (.returned (.tuple #[.agg #[.bool false, .slice none 0 0, .slice none 0 0, .slice none 0 0], .agg #[.int .i64 c, .bool p, .int .i64 k]])) W0) := fun W0 c p k h1 h2 h3 =>
    HPOST.out _ _ ⟨_, c, p, k, rfl, h1, .inl ⟨h2, h3, rfl⟩⟩
  have HRET : Hid (∀ W5 W0 v0 v1 v2 v3 f0 f1 f2 (tmps : Array Value), Below (((w.alloc (.cells #[.slice q n d, .int .i64 vars, .slice a m c] 27)).alloc (.cells #[.bool false, .slice none 0 0, .slice none 0 0, .slice none 0 0] 32)).alloc (.cells #[.int .i64 0, .bool false, .int .i64 0] 38)).heap.size (((w.alloc (.cells #[.slice q n d, .int .i64 vars, .slice a m c] 27)).alloc (.cells #[.bool false, .slice none 0 0, .slice none 0 0, .slice none 0 0] 32)).alloc (.cells #[.int .i64 0, .bool false, .int .i64 0] 38)) W5 → Below (sets3 (sets4 W5 (w.heap.size + 1) v0 v1 v2 v3) (w.heap.size + 2) f0 f1 f2).heap.size (sets3 (sets4 W5 (w.heap.size + 1) v0 v1 v2 v3) (w.heap.size + 2) f0 f1 f2) W0 → tmps.getD 2 undef = .pointer (some ⟨w.heap.size + 1, 0, none⟩) → tmps.getD 3 undef = .pointer (some ⟨w.heap.size + 2, 0, none⟩) →
      (results Tryd.f8 tmps).run Tryd.prog W0 = .ok (.tuple #[.agg #[v0, v1, v2, v3], .agg #[f0, f1, f2]]) W0) := fun W5 W0 v0 v1 v2 v3 f0 f1 f2 tmps h1 h3 h4 h5 => by
    obtain ⟨_, ⟨zs, _⟩, ⟨ys, _⟩, _⟩ := HBOX.out _ h1
    obtain ⟨⟨t0, t1, t2, t3⟩, u0, u1, u2⟩ := nm2_same (show w.heap.size + 1 ≠ w.heap.size + 2 by omega) zs ys v0 v1 v2 v3 f0 f1 f2
    have hk : ∀ b j u, (sets3 (sets4 W5 (w.heap.size + 1) v0 v1 v2 v3) (w.heap.size + 2) f0 f1 f2).cell? ⟨b, j, none⟩ = some u → W0.cell? ⟨b, j, none⟩ = some u := fun b j u h => (h3.cell (World.block_lt_of_cell? _ _ h)).trans h
    exact norm2_ret _ _ _ v0 v1 v2 v3 f0 f1 f2 tmps h4 h5 ⟨hk _ _ _ t0, hk _ _ _ t1, hk _ _ _ t2, hk _ _ _ t3⟩ ⟨hk _ _ _ u0, hk _ _ _ u1, hk _ _ _ u2⟩
  go_enter Tryd.func8, Tryd.ntmps8
  go_wp2_with (go_at_call 28; refine (HCK.out _ HW3.out).mono ?_; rintro e w1 ⟨c0, p0, k0, rfl, hcf, hb1⟩; have hc0 := HZ.out _ _ _ hcf; have hcb : (c0 != 0) = true := (by simp [hc0]); have HC0 := Lib.hid hc0; have HCF := Lib.hid hcf; clear hc0 hcf; have HBB := Lib.hid (hb1.alloc hb1.size (.cells #[.int .i64 c0, .bool p0, .int .i64 k0] 38)); have HBX := Lib.hid (HBOX.out _ HBB.out); obtain ⟨_, ⟨⟨y0, y1, y2, y3⟩, y4, y5, y6, y7⟩, ⟨⟨t0, t1, t2⟩, t3, t4, t5⟩, _⟩ := HBX.out)
  have hs1 : w.heap.size + 3 ≤ w1.heap.size := by have := hb1.size; rw [HS3.out] at this; exact this
  obtain ⟨f0, f1, f2⟩ := cells3 w1 (w1.alloc (.cells #[.int .i64 c0, .bool p0, .int .i64 k0] 38)) _ _ _ _ (Below.refl _ _)
  generalize w1.alloc (.cells #[.int .i64 c0, .bool p0, .int .i64 k0] 38) = wF at *
  generalize w1.heap.size = nf at *
  clear hb1
  go_region
  go_wp2_with fail
  have HLATE := Lib.hid (Below.refl (sets3 (sets4 wF (w.heap.size + 1) (.bool false) (.slice none 0 0) (.slice none 0 0) (.slice none 0 0)) (w.heap.size + 2) (.int .i64 c0) (.bool p0) (.int .i64 k0)).heap.size (sets3 (sets4 wF (w.heap.size + 1) (.bool false) (.slice none 0 0) (.slice none 0 0) (.slice none 0 0)) (w.heap.size + 2) (.int .i64 c0) (.bool p0) (.int .i64 k0))).drew
  exact bodyPost_ret (v := .tuple #[.agg #[.bool false, .slice none 0 0, .slice none 0 0, .slice none 0 0], .agg #[.int .i64 c0, .bool p0, .int .i64 k0]]) (HRET.out wF _ _ _ _ _ _ _ _ _ HBB.out HLATE.out rfl rfl) rfl (HBAD.out _ _ _ _ ((nm2_below HBX.out.2.2.2 (by omega) (by omega)).trans (HLATE.out.mono (by rw [sets3_size, sets4_size]; exact HBX.out.2.2.2.size))) HC0.out HCF.out)
end Go.Proofs.YtcodmijphejfdaaDoor

namespace Go.Proofs.YtcodmijphejfdaaDoor
open Go.RowKit

set_option maxHeartbeats 4000000 in
set_option maxRecDepth 100000 in
theorem norm2_good (vars : Int) (q : Option Addr) (d : Nat) (bs : List Blk) (a : Option Addr) (c : Nat) (xss : List (List Int)) (w : World) (hv1 : -9223372036854775808 ≤ vars) (hv2 : vars ≤ 9223372036854775807) (hq : BRowsAt w q d bs) (hr : RowsAt w a c xss)
    (hint : ∀ xs ∈ xss, ∀ l ∈ xs, -9223372036854775807 ≤ l ∧ l ≤ 9223372036854775807) (hn : xss.length ≤ 60) (hlen : ∀ xs ∈ xss, xs.length ≤ 1000000) (hnb : bs.length ≤ 8) (hnv : ∀ b ∈ bs, b.2.length ≤ 30) (hne : ¬ ∃ c p k, CheckFF vars bs xss c p k ∧ c ≠ 0) :
    Calls Tryd.prog 8 #[.agg #[.slice q bs.length d, .int .i64 vars, .slice a xss.length c]] w (Norm2Post w vars bs xss) := by
  have HCK := Lib.hid (fun W (hW : Below w.heap.size w W) => refCheckF_any vars q d bs a c xss W hv1 hv2 (hq.keep hW) (hr.keep hW) hint hn hlen hnb hnv)
  have hvf := vars_few bs hnv
  have hff := flat_few xss hlen
  have hfl := free_len bs xss
  have HFR := Lib.hid (fun W (hW : Below w.heap.size w W) => refFree_any vars q d bs a c xss W (hq.keep hW) (hr.keep hW) hint (by omega) (by omega))
  have HME := Lib.hid (fun W a' c' (h : BRowsAt W a' c' ((true, freeL bs xss) :: bs)) => refMerge_any a' c' _ W h (by simp; omega) (by simp [varsB] at hvf ⊢; omega))
  have HFL := Lib.hid (fun W (hW : Below w.heap.size w W) => (hq.keep hW).fl)
  have HRX := Lib.hid (fun W (hW : Below w.heap.size w W) => hr.keep hW)
  have HRW := Lib.hid (fun (W W' : World) fv fl (B n : Nat) o (hf : Row W fv (freeL bs xss)) (hq : BFl W fl bs) (hW : Below W.heap.size W W') (ho : W'.ownsRow B 58 2 o n ([.bool true, fv] ++ fl)) => nm2_rows hf hq hW ho)
  have HBOX : Hid (∀ W, Below (((w.alloc (.cells #[.slice q bs.length d, .int .i64 vars, .slice a xss.length c] 27)).alloc (.cells #[.bool false, .slice none 0 0, .slice none 0 0, .slice none 0 0] 32)).alloc (.cells #[.int .i64 0, .bool false, .int .i64 0] 38)).heap.size (((w.alloc (.cells #[.slice q bs.length d, .int .i64 vars, .slice a xss.length c] 27)).alloc (.cells #[.bool false, .slice none 0 0, .slice none 0 0, .slice none 0 0] 32)).alloc (.cells #[.int .i64 0, .bool false, .int .i64 0] 38)) W →
      (W.cell? ⟨w.heap.size, 0, none⟩ = some (.slice q bs.length d) ∧ W.cell? ⟨w.heap.size, 1, none⟩ = some (.int .i64 vars) ∧ W.cell? ⟨w.heap.size, 2, none⟩ = some (.slice a xss.length c)) ∧
      ((W.cell? ⟨w.heap.size + 1, 0, none⟩ = some (.bool false) ∧ W.cell? ⟨w.heap.size + 1, 1, none⟩ = some (.slice none 0 0) ∧ W.cell? ⟨w.heap.size + 1, 2, none⟩ = some (.slice none 0 0) ∧ W.cell? ⟨w.heap.size + 1, 3, none⟩ = some (.slice none 0 0)) ∧
        W.frozen? ⟨w.heap.size + 1, 0, none⟩ = false ∧ W.frozen? ⟨w.heap.size + 1, 1, none⟩ = false ∧ W.frozen? ⟨w.heap.size + 1, 2, none⟩ = false ∧ W.frozen? ⟨w.heap.size + 1, 3, none⟩ = false) ∧
      ((W.cell? ⟨w.heap.size + 2, 0, none⟩ = some (.int .i64 0) ∧ W.cell? ⟨w.heap.size + 2, 1, none⟩ = some (.bool false) ∧ W.cell? ⟨w.heap.size + 2, 2, none⟩ = some (.int .i64 0)) ∧
        W.frozen? ⟨w.heap.size + 2, 0, none⟩ = false ∧ W.frozen? ⟨w.heap.size + 2, 1, none⟩ = false ∧ W.frozen? ⟨w.heap.size + 2, 2, none⟩ = false) ∧ Below w.heap.size w W) := fun W h => nm2_box w W q _ d vars a _ c h
  have HW3 : Hid (Below w.heap.size w (((w.alloc (.cells #[.slice q bs.length d, .int .i64 vars, .slice a xss.length c] 27)).alloc (.cells #[.bool false, .slice none 0 0, .slice none 0 0, .slice none 0 0] 32)).alloc (.cells #[.int .i64 0, .bool false, .int .i64 0] 38))) := (((Below.refl _ w).alloc (Nat.le_refl _) _).alloc (by simp) _).alloc (by simp; omega) _
  have HS3 : Hid ((((w.alloc (.cells #[.slice q bs.length d, .int .i64 vars, .slice a xss.length c] 27)).alloc (.cells #[.bool false, .slice none 0 0, .slice none 0 0, .slice none 0 0] 32)).alloc (.cells #[.int .i64 0, .bool false, .int .i64 0] 38)).heap.size = w.heap.size + 3) := by unfold Hid; simp
  have HPOST := Lib.hid (show ∀ e w', (∃ gv c p k, e = .returned (.tuple #[gv, faultV c p k]) ∧ Below w.heap.size w w' ∧
    ((c ≠ 0 ∧ CheckFF vars bs xss c p k ∧ gv = zeroG) ∨
      (CheckFF vars bs xss 0 false 0 ∧ 2 < (gameL bs xss).length ∧ c = 105 ∧ p = false ∧ k = 0 ∧ gv = zeroG) ∨
      (CheckFF vars bs xss 0 false 0 ∧ (gameL bs xss).length ≤ 2 ∧ c = 0 ∧ p = false ∧ k = 0 ∧ GameV w' gv (exG (gameL bs xss)) (outG (gameL bs xss)) (inG (gameL bs xss)) xss))) → Norm2Post w vars bs xss e w' from fun e w' h => h)
  have HN8 := Lib.hid hnb
  unfold ChkRPost at HCK
  unfold faultV at *
  clear hq hr hint hlen hn hnb hnv hvf hff hfl
  generalize hP : Norm2Post w vars bs xss = P at *
  clear hP
  have HZ : Hid (∀ c p k, CheckFF vars bs xss c p k → c = 0 ∧ p = false ∧ k = 0) := fun c p k h => by
    have h0 : c = 0 := by
      by_cases h0 : c = 0
      · exact h0
      · exact absurd ⟨c, p, k, h, h0⟩ hne
    subst h0
    rcases h with ⟨h1, _⟩ | ⟨h1, h2⟩
    · exact absurd rfl h1
    · rcases h2 with ⟨h3, _, h4, h5⟩ | ⟨i, _, h3, _⟩
      · exact ⟨rfl, h4, h5⟩
      · omega
  clear hne
  rw [show gameL bs xss = mergeL ((true, freeL bs xss) :: bs) from rfl] at HPOST
  generalize freeL bs xss = fl at *
  generalize mergeL ((true, fl) :: bs) = ms at *
  generalize (true, fl) :: bs = cs at *
  generalize cs.length = L at *
  generalize hnn : bs.length = n at *
  generalize hmm : xss.length = m at *
  have HMM := Lib.hid hmm; have HNN := Lib.hid hnn; clear hmm hnn
  have HGOOD : Hid (∀ W5 W0 (B : Nat) o vs ex vo vi v0 v1 v2 v3 f0 f1 f2, MgG W5 B o ms vs → w.heap.size + 3 ≤ B → Below w.heap.size w W5 → Below (sets3 (sets4 W5 (w.heap.size + 1) v0 v1 v2 v3) (w.heap.size + 2) f0 f1 f2).heap.size (sets3 (sets4 W5 (w.heap.size + 1) v0 v1 v2 v3) (w.heap.size + 2) f0 f1 f2) W0 → ms.length ≤ 2 → CheckFF vars bs xss 0 false 0 → ex = exG ms → vo = vs.getD 0 nilV → vi = vs.getD 1 nilV →
      P (.returned (.tuple #[.agg #[.bool ex, vo, vi, .slice a m c], .agg #[.int .i64 0, .bool false, .int .i64 0]])) W0) := fun W5 W0 B o vs ex vo vi v0 v1 v2 v3 f0 f1 f2 g1 g2 g3 g4 g5 g6 g7 g8 g9 => by
    have hb : Below w.heap.size w (sets3 (sets4 W5 (w.heap.size + 1) v0 v1 v2 v3) (w.heap.size + 2) f0 f1 f2) := nm2_below g3 (by omega) (by omega)
    have hb0 := hb.trans (g4.mono hb.size)
    have hg := nm2_game g1 g2 g4 (HRX.out W0 hb0) ex vo vi g7 g8 g9
    rw [HMM.out] at hg
    exact HPOST.out _ _ ⟨_, 0, false, 0, rfl, hb0, .inr (.inr ⟨g6, g5, rfl, rfl, rfl, hg⟩)⟩
  have HMANY : Hid (∀ W0, Below w.heap.size w W0 → 2 < ms.length → CheckFF vars bs xss 0 false 0 →
      P (.returned (.tuple #[.agg #[.bool false, .slice none 0 0, .slice none 0 0, .slice none 0 0], .agg #[.int .i64 105, .bool false, .int .i64 0]])) W0) := fun W0 h1 h2 h3 =>
    HPOST.out _ _ ⟨_, 105, false, 0, rfl, h1, .inr (.inl ⟨h3, h2, rfl, rfl, rfl, rfl⟩)⟩
  have HRET : Hid (∀ W5 W0 v0 v1 v2 v3 f0 f1 f2 (tmps : Array Value), Below (((w.alloc (.cells #[.slice q n d, .int .i64 vars, .slice a m c] 27)).alloc (.cells #[.bool false, .slice none 0 0, .slice none 0 0, .slice none 0 0] 32)).alloc (.cells #[.int .i64 0, .bool false, .int .i64 0] 38)).heap.size (((w.alloc (.cells #[.slice q n d, .int .i64 vars, .slice a m c] 27)).alloc (.cells #[.bool false, .slice none 0 0, .slice none 0 0, .slice none 0 0] 32)).alloc (.cells #[.int .i64 0, .bool false, .int .i64 0] 38)) W5 → Below (sets3 (sets4 W5 (w.heap.size + 1) v0 v1 v2 v3) (w.heap.size + 2) f0 f1 f2).heap.size (sets3 (sets4 W5 (w.heap.size + 1) v0 v1 v2 v3) (w.heap.size + 2) f0 f1 f2) W0 → tmps.getD 2 undef = .pointer (some ⟨w.heap.size + 1, 0, none⟩) → tmps.getD 3 undef = .pointer (some ⟨w.heap.size + 2, 0, none⟩) →
      (results Tryd.f8 tmps).run Tryd.prog W0 = .ok (.tuple #[.agg #[v0, v1, v2, v3], .agg #[f0, f1, f2]]) W0) := fun W5 W0 v0 v1 v2 v3 f0 f1 f2 tmps h1 h3 h4 h5 => by
    obtain ⟨_, ⟨zs, _⟩, ⟨ys, _⟩, _⟩ := HBOX.out _ h1
    obtain ⟨⟨t0, t1, t2, t3⟩, u0, u1, u2⟩ := nm2_same (show w.heap.size + 1 ≠ w.heap.size + 2 by omega) zs ys v0 v1 v2 v3 f0 f1 f2
    have hk : ∀ b j u, (sets3 (sets4 W5 (w.heap.size + 1) v0 v1 v2 v3) (w.heap.size + 2) f0 f1 f2).cell? ⟨b, j, none⟩ = some u → W0.cell? ⟨b, j, none⟩ = some u := fun b j u h => (h3.cell (World.block_lt_of_cell? _ _ h)).trans h
    exact norm2_ret _ _ _ v0 v1 v2 v3 f0 f1 f2 tmps h4 h5 ⟨hk _ _ _ t0, hk _ _ _ t1, hk _ _ _ t2, hk _ _ _ t3⟩ ⟨hk _ _ _ u0, hk _ _ _ u1, hk _ _ _ u2⟩
  have HVN : Hid (∀ (vs : List Value) j, vs.length = ms.length → ms.length ≤ j → Value.slice none 0 0 = vs.getD j nilV) := fun vs j h1 h2 => by
    have : vs.getD j nilV = nilV := by simp [List.getD, List.getElem?_eq_none (show vs.length ≤ j by omega)]
    rw [this]; rfl
  have HEX0 : Hid (ms.length = 0 → true = exG ms) := fun h => by unfold exG; rw [if_pos h]
  have HEX1 : Hid (ms.length ≠ 0 → (ms.getD 0 blk0).1 = exG ms) := fun h => by unfold exG; rw [if_neg h]
  have HBA := Lib.hid (fun W => bare_any 105 W)
  unfold faultV at HBA
  go_enter Tryd.func8, Tryd.ntmps8
  go_upto_region 4 with (go_at_call 28; refine (HCK.out _ HW3.out).mono ?_; rintro e w1 ⟨c0, p0, k0, rfl, hcf, hb1⟩; obtain ⟨rfl, rfl, rfl⟩ := HZ.out _ _ _ hcf; have HCF := Lib.hid hcf; clear hcf)
  have HB1 : Hid (∀ W, Below (w1.alloc (.cells #[.int .i64 0, .bool false, .int .i64 0] 38)).heap.size (w1.alloc (.cells #[.int .i64 0, .bool false, .int .i64 0] 38)) W → Below (((w.alloc (.cells #[.slice q n d, .int .i64 vars, .slice a m c] 27)).alloc (.cells #[.bool false, .slice none 0 0, .slice none 0 0, .slice none 0 0] 32)).alloc (.cells #[.int .i64 0, .bool false, .int .i64 0] 38)).heap.size (((w.alloc (.cells #[.slice q n d, .int .i64 vars, .slice a m c] 27)).alloc (.cells #[.bool false, .slice none 0 0, .slice none 0 0, .slice none 0 0] 32)).alloc (.cells #[.int .i64 0, .bool false, .int .i64 0] 38)) W ∧ (W.cell? ⟨w1.heap.size, 0, none⟩ = some (.int .i64 0) ∧ W.cell? ⟨w1.heap.size, 1, none⟩ = some (.bool false) ∧ W.cell? ⟨w1.heap.size, 2, none⟩ = some (.int .i64 0))) := fun W hW =>
    ⟨(hb1.alloc hb1.size _).trans (hW.mono (by have := hb1.size; simp at this ⊢; omega)), cells3 w1 W _ _ _ _ hW⟩
  have hs1 : w.heap.size + 3 ≤ w1.heap.size := by have := hb1.size; rw [HS3.out] at this; exact this
  generalize hW1 : w1.alloc (.cells #[.int .i64 0, .bool false, .int .i64 0] 38) = wF at *
  have HSF : Hid (wF.heap.size = w1.heap.size + 1) := by rw [← hW1]; unfold Hid; simp
  generalize w1.heap.size = nf at *
  clear hb1 hW1
  obtain ⟨⟨x0, x1, x2⟩, _, _, hbwF⟩ := HBOX.out _ (HB1.out wF (Below.refl _ _)).1
  go_cut [5] (fun l W4 => ∃ (B : Nat) (vs : List Value), w.heap.size + 3 ≤ B ∧ Hid (MgG W4 B l ms vs) ∧ Hid (Below wF.heap.size wF W4))
  case first =>
    go_region_law (first
      | (go_simp; go_at_call 13; refine (HFR.out _ (by first | exact hbwF | exact hbwF.drew | exact below_drewN hbwF _)).mono ?_; rintro e w2 ⟨⟨fv, rfl, hfv⟩, hb2⟩; have hbF2 : Below wF.heap.size wF w2 := below_call (by first | exact Below.refl _ _ | exact (Below.refl _ _).drew | exact below_drewN (Below.refl _ _) _) (by first | exact Nat.le_refl _ | simp) hb2; have HBF2 := Lib.hid hbF2; have hbw2 := (HBOX.out _ (HB1.out _ hbF2).1).2.2.2; obtain ⟨flq, hflq, hcq⟩ := HFL.out _ hbw2; have HFQ := Lib.hid hflq; have HFV := Lib.hid hfv; obtain ⟨fa, fc, rfl, _⟩ := hfv; have HTWO : Hid (∀ W, Below (w2.alloc (.cells #[.bool true, .slice fa fl.length fc] 58)).heap.size (w2.alloc (.cells #[.bool true, .slice fa fl.length fc] 58)) W → W.ownsRow w2.heap.size 58 2 (.slice (some ⟨w2.heap.size, 0, none⟩) 1 1) 1 [.bool true, .slice fa fl.length fc] ∧ w2.heap.size ≤ W.heap.size ∧ Below w2.heap.size w2 W) := (fun W hW => ⟨own_keep (own_two w2 w2.heap.size 58 (.bool true) (.slice fa fl.length fc) (Nat.le_refl _)) hW, (by have := hW.size; simp at this; omega), ((Below.refl _ w2).alloc (Nat.le_refl _) _).trans (hW.mono (by simp))⟩); have HQC : Hid (∀ W, Below w2.heap.size w2 W → n = 0 ∨ ∃ ad, q = some ad ∧ ∀ j u, flq[j]? = some u → W.cell? (ad.add j) = some u) := (fun W hW => hcq.imp id fun ⟨ad, e, h⟩ => ⟨ad, e, fun j u hj => (hW.cell (World.block_lt_of_cell? w2 _ (h j u hj))).trans (h j u hj)⟩); have HFLL : Hid (flq.length = n * 2) := (by rw [← HNN.out]; exact hflq.len); have HFL1 := Lib.hid hflq.one; clear hflq hcq hb2 hbF2; obtain ⟨⟨y0, y1, y2⟩, _, _, _⟩ := HBOX.out _ (HB1.out w2 HBF2.out).1; have y0a : (w2.alloc (.cells #[.bool true, .slice fa fl.length fc] 58)).cell? ⟨w.heap.size, 0, none⟩ = some (.slice q n d) := (((Below.refl _ w2).alloc (Nat.le_refl _) _).cell (p := ⟨w.heap.size, 0, none⟩) (World.block_lt_of_cell? w2 _ y0)).trans y0)
      | (refine step_appC 22 58 _ 2 32 Tryd.underlying22 infoBlk rfl (by decide) (by decide) rfl _ _ rfl _ w2.heap.size (.slice (some ⟨w2.heap.size, 0, none⟩) 1 1) 1 [.bool true, .slice fa fl.length fc] q n d flq (HTWO.out _ (by first | exact Below.refl _ _ | exact (Below.refl _ _).drew | exact below_drewN (Below.refl _ _) _)).1 (HTWO.out _ (by first | exact Below.refl _ _ | exact (Below.refl _ _).drew | exact below_drewN (Below.refl _ _) _)).2.1 (by have := HN8.out; omega) HFLL.out (HQC.out _ (HTWO.out _ (by first | exact Below.refl _ _ | exact (Below.refl _ _).drew | exact below_drewN (Below.refl _ _) _)).2.2) HFL1.out rfl rfl ?_; intro o3 w3 hown3 hap3; have hb23 : Below w2.heap.size w2 w3 := (HTWO.out _ (by first | exact Below.refl _ _ | exact (Below.refl _ _).drew | exact below_drewN (Below.refl _ _) _)).2.2.trans hap3.below; obtain ⟨a3, c3, rfl, hbr3⟩ := HRW.out _ _ _ _ _ _ _ HFV.out HFQ.out hb23 hown3; have HBR3 := Lib.hid hbr3; have HBF3 := Lib.hid (HBF2.out.trans (hb23.mono HBF2.out.size)); clear hown3 hap3 hbr3 hb23)
      | (go_simp; go_at_call 16; refine (HME.out _ _ _ HBR3.out).mono ?_; rintro e w4 ⟨⟨mv, vs, rfl, hmg⟩, hb4⟩; have HMG := Lib.hid hmg; have HBF4 := Lib.hid (HBF3.out.trans (hb4.mono HBF3.out.size)); have HW34 := Lib.hid hb4; clear hmg hb4))
    all_goals
      go_wp2_with fail
      go_meet
      exact ⟨w3.heap.size, vs, by have := HBF3.out.size; have := HSF.out; omega, HMG.out, HBF4.out⟩
  case rest =>
    obtain ⟨B, vs, hB, HMG, HBF4⟩ := hcut
    obtain ⟨w4, rfl⟩ : ∃ w4 : World, w4 = wc := ⟨_, rfl⟩
    clear x0 x1 x2 hbwF
    obtain ⟨⟨x0, x1, x2⟩, _, _, hbw4⟩ := HBOX.out _ (HB1.out w4 HBF4.out).1
    have hs4 : w.heap.size + 4 ≤ w4.heap.size := by have := HBF4.out.size; have := HSF.out; omega
    have zz := fun o => (HBOX.out _ (HB1.out _ (HBF4.out.alloc HBF4.out.size o)).1).2.1
    have yy := fun o => (HBOX.out _ (HB1.out _ (HBF4.out.alloc HBF4.out.size o)).1).2.2.1
    have ff := fun o => (HB1.out _ (HBF4.out.alloc HBF4.out.size o)).2
    have z0 := fun o => (zz o).1.1
    have z1 := fun o => (zz o).1.2.1
    have z2 := fun o => (zz o).1.2.2.1
    have z3 := fun o => (zz o).1.2.2.2
    have e0 := fun o => (zz o).2.1
    have e1 := fun o => (zz o).2.2.1
    have e2 := fun o => (zz o).2.2.2.1
    have e3 := fun o => (zz o).2.2.2.2
    have k0 := fun o => (yy o).1.1
    have k1 := fun o => (yy o).1.2.1
    have k2 := fun o => (yy o).1.2.2
    have l0 := fun o => (yy o).2.1
    have l1 := fun o => (yy o).2.2.1
    have l2 := fun o => (yy o).2.2.2
    have f0 := fun o => (ff o).1
    have f1 := fun o => (ff o).2.1
    have f2 := fun o => (ff o).2.2
    clear zz yy ff
    have HB5 := Lib.hid (fun o => HBF4.out.alloc HBF4.out.size o)
    have HM5 := Lib.hid (fun o => hmg_alloc HMG.out o)
    by_cases h0 : ms.length = 0
    · have hsh := own_shape3 HMG.out.out
      rw [h0] at hsh
      obtain ⟨al, cl, rfl⟩ := hsh
      have H0 := Lib.hid h0; clear h0
      go_wp2_with fail
      go_region
      go_wp2_with fail
      have HLATE := Lib.hid (Below.refl (sets3 (sets4 (w4.alloc (.cells #[.bool true, .slice none 0 0, .slice none 0 0, .slice a m c] 32)) (w.heap.size + 1) (.bool true) (.slice none 0 0) (.slice none 0 0) (.slice a m c)) (w.heap.size + 2) (.int .i64 0) (.bool false) (.int .i64 0)).heap.size (sets3 (sets4 (w4.alloc (.cells #[.bool true, .slice none 0 0, .slice none 0 0, .slice a m c] 32)) (w.heap.size + 1) (.bool true) (.slice none 0 0) (.slice none 0 0) (.slice a m c)) (w.heap.size + 2) (.int .i64 0) (.bool false) (.int .i64 0))).drew
      exact bodyPost_ret (v := .tuple #[.agg #[.bool true, .slice none 0 0, .slice none 0 0, .slice a m c], .agg #[.int .i64 0, .bool false, .int .i64 0]]) (HRET.out (w4.alloc (.cells #[.bool true, .slice none 0 0, .slice none 0 0, .slice a m c] 32)) _ _ _ _ _ _ _ _ _ (HB1.out _ (HB5.out _)).1 HLATE.out rfl rfl) rfl (HGOOD.out (w4.alloc (.cells #[.bool true, .slice none 0 0, .slice none 0 0, .slice a m c] 32)) _ B _ vs _ _ _ _ _ _ _ _ _ _ (HM5.out _) hB (hbw4.alloc hbw4.size _) HLATE.out (by have := H0.out; omega) HCF.out (HEX0.out H0.out) (HVN.out vs 0 HMG.out.len (by have := H0.out; omega)) (HVN.out vs 1 HMG.out.len (by have := H0.out; omega)))
    by_cases h1 : ms.length = 1
    · have hne : ms.length ≠ 0 := by omega
      obtain ⟨gm, cm, hsh, _, _⟩ := (own_shape2 HMG.out.out).resolve_left (fun h => absurd h.2 hne)
      rw [h1] at hsh
      subst hsh
      obtain ⟨ex0, va, vl, vk, u0, u1, hE0, hV0⟩ := game_cells HMG.out h1.symm 0 (by omega)
      rw [show 0 * 2 = 0 from rfl] at u0 u1
      rw [show 0 + 1 = 1 from rfl] at u1
      have u0 := fun o => ((Below.refl _ w4).alloc (Nat.le_refl _) o |>.cell (p := ⟨gm, 0, none⟩) (World.block_lt_of_cell? w4 _ u0)).trans u0
      have u1 := fun o => ((Below.refl _ w4).alloc (Nat.le_refl _) o |>.cell (p := ⟨gm, 1, none⟩) (World.block_lt_of_cell? w4 _ u1)).trans u1
      have HE0 := Lib.hid hE0
      have HV0 := Lib.hid hV0
      have H1 := Lib.hid h1
      clear hE0 hV0 h0 h1 hne
      go_wp2_with fail
      go_region
      go_wp2_with fail
      have HLATE := Lib.hid (Below.refl (sets3 (sets4 (w4.alloc (.cells #[.bool ex0, .slice va vl vk, .slice none 0 0, .slice a m c] 32)) (w.heap.size + 1) (.bool ex0) (.slice va vl vk) (.slice none 0 0) (.slice a m c)) (w.heap.size + 2) (.int .i64 0) (.bool false) (.int .i64 0)).heap.size (sets3 (sets4 (w4.alloc (.cells #[.bool ex0, .slice va vl vk, .slice none 0 0, .slice a m c] 32)) (w.heap.size + 1) (.bool ex0) (.slice va vl vk) (.slice none 0 0) (.slice a m c)) (w.heap.size + 2) (.int .i64 0) (.bool false) (.int .i64 0))).drew
      exact bodyPost_ret (v := .tuple #[.agg #[.bool ex0, .slice va vl vk, .slice none 0 0, .slice a m c], .agg #[.int .i64 0, .bool false, .int .i64 0]]) (HRET.out (w4.alloc (.cells #[.bool ex0, .slice va vl vk, .slice none 0 0, .slice a m c] 32)) _ _ _ _ _ _ _ _ _ (HB1.out _ (HB5.out _)).1 HLATE.out rfl rfl) rfl (HGOOD.out (w4.alloc (.cells #[.bool ex0, .slice va vl vk, .slice none 0 0, .slice a m c] 32)) _ B _ vs _ _ _ _ _ _ _ _ _ _ (HM5.out _) hB (hbw4.alloc hbw4.size _) HLATE.out (by have := H1.out; omega) HCF.out (HE0.out.trans (HEX1.out (by have := H1.out; omega))) HV0.out (HVN.out vs 1 HMG.out.len (by have := H1.out; omega)))
    by_cases h2 : ms.length = 2
    · have hne : ms.length ≠ 0 := by omega
      obtain ⟨gm, cm, hsh, _, _⟩ := (own_shape2 HMG.out.out).resolve_left (fun h => absurd h.2 hne)
      rw [h2] at hsh
      subst hsh
      obtain ⟨ex0, va, vl, vk, u0, u1, hE0, hV0⟩ := game_cells HMG.out h2.symm 0 (by omega)
      obtain ⟨_, va', vl', vk', _, u3, _, hV1⟩ := game_cells HMG.out h2.symm 1 (by omega)
      rw [show 0 * 2 = 0 from rfl] at u0 u1
      rw [show 0 + 1 = 1 from rfl] at u1
      rw [show 1 * 2 + 1 = 3 from rfl] at u3
      have u0 := fun o => ((Below.refl _ w4).alloc (Nat.le_refl _) o |>.cell (p := ⟨gm, 0, none⟩) (World.block_lt_of_cell? w4 _ u0)).trans u0
      have u1 := fun o => ((Below.refl _ w4).alloc (Nat.le_refl _) o |>.cell (p := ⟨gm, 1, none⟩) (World.block_lt_of_cell? w4 _ u1)).trans u1
      have u3 := fun o => ((Below.refl _ w4).alloc (Nat.le_refl _) o |>.cell (p := ⟨gm, 3, none⟩) (World.block_lt_of_cell? w4 _ u3)).trans u3
      have HE0 := Lib.hid hE0
      have HV0 := Lib.hid hV0
      have HV1 := Lib.hid hV1
      have H2 := Lib.hid h2
      clear hE0 hV0 hV1 h0 h1 h2 hne
      go_wp2_with fail
      go_region
      go_wp2_with fail
      have HLATE := Lib.hid (Below.refl (sets3 (sets4 (w4.alloc (.cells #[.bool ex0, .slice va vl vk, .slice va' vl' vk', .slice a m c] 32)) (w.heap.size + 1) (.bool ex0) (.slice va vl vk) (.slice va' vl' vk') (.slice a m c)) (w.heap.size + 2) (.int .i64 0) (.bool false) (.int .i64 0)).heap.size (sets3 (sets4 (w4.alloc (.cells #[.bool ex0, .slice va vl vk, .slice va' vl' vk', .slice a m c] 32)) (w.heap.size + 1) (.bool ex0) (.slice va vl vk) (.slice va' vl' vk') (.slice a m c)) (w.heap.size + 2) (.int .i64 0) (.bool false) (.int .i64 0))).drew
      exact bodyPost_ret (v := .tuple #[.agg #[.bool ex0, .slice va vl vk, .slice va' vl' vk', .slice a m c], .agg #[.int .i64 0, .bool false, .int .i64 0]]) (HRET.out (w4.alloc (.cells #[.bool ex0, .slice va vl vk, .slice va' vl' vk', .slice a m c] 32)) _ _ _ _ _ _ _ _ _ (HB1.out _ (HB5.out _)).1 HLATE.out rfl rfl) rfl (HGOOD.out (w4.alloc (.cells #[.bool ex0, .slice va vl vk, .slice va' vl' vk', .slice a m c] 32)) _ B _ vs _ _ _ _ _ _ _ _ _ _ (HM5.out _) hB (hbw4.alloc hbw4.size _) HLATE.out (by have := H2.out; omega) HCF.out (HE0.out.trans (HEX1.out (by have := H2.out; omega))) HV0.out (HV1.out))
    · have hL : 2 < ms.length := by omega
      have HL := Lib.hid hL
      obtain ⟨al, cl, rfl⟩ := own_shape3 HMG.out.out
      have d0 : ((ms.length : Int) == 0) = false := by rw [beq_eq_false_iff_ne]; omega
      have d1 : ((ms.length : Int) == 1) = false := by rw [beq_eq_false_iff_ne]; omega
      have d2 : ((ms.length : Int) == 2) = false := by rw [beq_eq_false_iff_ne]; omega
      clear h0 h1 h2 hL
      generalize ms.length = lm at *
      go_wp2_with (go_at_call 29; refine (HBA.out _).mono ?_; rintro e w5 ⟨rfl, hb5⟩; have HB6 := Lib.hid ((HB5.out _).trans (hb5.mono (HB5.out _).size)); have HBX := Lib.hid (HBOX.out _ (HB1.out _ HB6.out).1); obtain ⟨_, ⟨⟨y0, y1, y2, y3⟩, y4, y5, y6, y7⟩, ⟨⟨t0, t1, t2⟩, t3, t4, t5⟩, _⟩ := HBX.out)
      exact bodyPost_ret (v := .tuple #[.agg #[.bool false, .slice none 0 0, .slice none 0 0, .slice none 0 0], .agg #[.int .i64 105, .bool false, .int .i64 0]]) (HRET.out w5 (sets3 (sets4 w5 (w.heap.size + 1) (.bool false) (.slice none 0 0) (.slice none 0 0) (.slice none 0 0)) (w.heap.size + 2) (.int .i64 105) (.bool false) (.int .i64 0)) _ _ _ _ _ _ _ _ (HB1.out _ HB6.out).1 (Below.refl _ _) rfl rfl) rfl (HMANY.out _ (nm2_below HBX.out.2.2.2 (by omega) (by omega)) HL.out HCF.out)
end Go.Proofs.YtcodmijphejfdaaDoor

namespace Go.Proofs.YtcodmijphejfdaaDoor
open Go.RowKit

theorem norm2_any (vars : Int) (q : Option Addr) (d : Nat) (bs : List Blk) (a : Option Addr) (c : Nat) (xss : List (List Int)) (w : World) (hv1 : -9223372036854775808 ≤ vars) (hv2 : vars ≤ 9223372036854775807) (hq : BRowsAt w q d bs) (hr : RowsAt w a c xss)
    (hint : ∀ xs ∈ xss, ∀ l ∈ xs, -9223372036854775807 ≤ l ∧ l ≤ 9223372036854775807) (hn : xss.length ≤ 60) (hlen : ∀ xs ∈ xss, xs.length ≤ 1000000) (hnb : bs.length ≤ 8) (hnv : ∀ b ∈ bs, b.2.length ≤ 30) :
    Calls Tryd.prog 8 #[.agg #[.slice q bs.length d, .int .i64 vars, .slice a xss.length c]] w (Norm2Post w vars bs xss) := by
  by_cases hne : ∃ c p k, CheckFF vars bs xss c p k ∧ c ≠ 0
  · exact norm2_bad vars q d bs a c xss w hv1 hv2 hq hr hint hn hlen hnb hnv hne
  · exact norm2_good vars q d bs a c xss w hv1 hv2 hq hr hint hn hlen hnb hnv hne
end Go.Proofs.YtcodmijphejfdaaDoor

namespace Go.Proofs.YtcodmijphejfdaaDoor
open Go.RowKit

theorem ps_near {xss : List (List Int)} (h : (xss.all fun xs => xs.all nearB) = true) (hi : ∀ xs ∈ xss, ∀ y ∈ xs, -9223372036854775808 ≤ y ∧ y ≤ 9223372036854775807) : ∀ xs ∈ xss, ∀ l ∈ xs, -9223372036854775807 ≤ l ∧ l ≤ 9223372036854775807 := fun xs hx l hl =>
  ⟨by have := (nearB_iff l).1 (List.all_eq_true.1 (List.all_eq_true.1 h xs hx) l hl); omega, (hi xs hx l hl).2⟩
theorem ps_light {bs : List Blk} {xss : List (List Int)} (h : lightB bs xss = true) : bs.length ≤ 8 ∧ xss.length ≤ 60 ∧ (xss.all fun xs => xs.all nearB) = true ∧ (∀ xs ∈ xss, xs.length ≤ 300) ∧ ∀ b ∈ bs, b.2.length ≤ 30 := by
  unfold lightB at h
  simp only [Bool.and_eq_true, decide_eq_true_eq] at h
  obtain ⟨h1, h2, h3, h4, h5⟩ := h
  refine ⟨h1, h2, h3, fun xs hx => ?_, fun b hb => ?_⟩
  · obtain ⟨i, hi, rfl⟩ := List.getElem_of_mem hx
    have h1 := sumTo_succ xss i hi
    have h2 := sumTo_mono xss (i + 1) xss.length (by omega)
    rw [show xss.getD i [] = xss[i] by simp [List.getD, hi]] at h1
    omega
  · have := List.all_eq_true.1 h5 b hb
    simp only [Bool.and_eq_true, decide_eq_true_eq] at this
    exact this.1
def psD1 (A : Nat → Addr) (vars : Int) (bs : List Blk) (xss : List (List Int)) (w' : World) (gv ev : Value) : Prop :=
  (∃ c p k, c ≠ 0 ∧ CheckFF vars bs xss c p k ∧ ErrR A w' ev c p k ∧ gv = zeroG) ∨
    (CheckFF vars bs xss 0 false 0 ∧ 2 < (gameL bs xss).length ∧ ev = sentV A 4 ∧ gv = zeroG) ∨
    (CheckFF vars bs xss 0 false 0 ∧ (gameL bs xss).length ≤ 2 ∧ ev = .nilIface ∧ GameV w' gv (exG (gameL bs xss)) (outG (gameL bs xss)) (inG (gameL bs xss)) xss)
def psD2 (vars : Int) (bs : List Blk) (xss : List (List Int)) (w' : World) (gv : Value) (c : Int) (p : Bool) (k : Int) : Prop :=
  (c ≠ 0 ∧ CheckFF vars bs xss c p k ∧ gv = zeroG) ∨
    (CheckFF vars bs xss 0 false 0 ∧ 2 < (gameL bs xss).length ∧ c = 105 ∧ p = false ∧ k = 0 ∧ gv = zeroG) ∨
    (CheckFF vars bs xss 0 false 0 ∧ (gameL bs xss).length ≤ 2 ∧ c = 0 ∧ p = false ∧ k = 0 ∧ GameV w' gv (exG (gameL bs xss)) (outG (gameL bs xss)) (inG (gameL bs xss)) xss)
theorem ps_meet0 {A : Nat → Addr} {vars : Int} {bs : List Blk} {xss : List (List Int)} {w3 w4 : World} {gv ev gv2 : Value} {c : Int} {p : Bool} {k : Int} (h1 : psD1 A vars bs xss w3 gv ev) (h2 : psD2 vars bs xss w4 gv2 c p k) :
    ∃ ex o i yss, GameV w3 gv ex o i yss ∧ GameV w4 gv2 ex o i yss ∧ ErrR A w3 ev c p k := by
  rcases h1 with ⟨c1, p1, k1, a0, a1, a2, rfl⟩ | ⟨a1, a2, rfl, rfl⟩ | ⟨a1, a2, rfl, a3⟩
  · rcases h2 with ⟨b0, b1, rfl⟩ | ⟨b1, _⟩ | ⟨b1, _⟩
    · obtain ⟨rfl, rfl, rfl⟩ := checkFF_same a1 b1
      exact ⟨_, _, _, _, zeroG_v w3, zeroG_v w4, a2⟩
    · exact absurd (checkFF_same b1 a1).1 a0
    · exact absurd (checkFF_same b1 a1).1 a0
  · rcases h2 with ⟨b0, b1, rfl⟩ | ⟨b1, b2, rfl, rfl, rfl, rfl⟩ | ⟨b1, b2, _⟩
    · exact absurd (checkFF_same a1 b1).1 b0
    · exact ⟨_, _, _, _, zeroG_v w3, zeroG_v w4, errR_sent A w3 4 (by decide)⟩
    · omega
  · rcases h2 with ⟨b0, b1, rfl⟩ | ⟨b1, b2, _⟩ | ⟨b1, b2, rfl, rfl, rfl, b3⟩
    · exact absurd (checkFF_same a1 b1).1 b0
    · omega
    · exact ⟨_, _, _, _, a3, b3, errR_nil A w3⟩
theorem ps_shape {A : Nat → Addr} {vars : Int} {bs : List Blk} {xss : List (List Int)} {w3 : World} {gv ev : Value} (h1 : psD1 A vars bs xss w3 gv ev) :
    ∃ (ex : Bool) (bo : Option Addr) (no co : Nat) (bi : Option Addr) (ni ci : Nat) (a1 : Option Addr) (m1 c1 : Nat), gv = .agg #[.bool ex, .slice bo no co, .slice bi ni ci, .slice a1 m1 c1] := by
  have hz : ∃ (ex : Bool) (bo : Option Addr) (no co : Nat) (bi : Option Addr) (ni ci : Nat) (a1 : Option Addr) (m1 c1 : Nat), zeroG = .agg #[.bool ex, .slice bo no co, .slice bi ni ci, .slice a1 m1 c1] := ⟨_, _, _, _, _, _, _, _, _, _, rfl⟩
  rcases h1 with ⟨c1, p1, k1, a0, a1, a2, rfl⟩ | ⟨a1, a2, rfl, rfl⟩ | ⟨a1, a2, rfl, a3⟩
  · exact hz
  · exact hz
  · obtain ⟨vo, vi, a, cap, rfl, ⟨b1, d1, rfl, _⟩, ⟨b2, d2, rfl, _⟩, _⟩ := a3
    exact ⟨_, _, _, _, _, _, _, _, _, _, rfl⟩
/-- Both answers, taken apart. -/
theorem ps_meet {A : Nat → Addr} {vars : Int} {bs : List Blk} {xss : List (List Int)} {w3 w4 : World} {ex : Bool} {v1 v2 : Value} {a1 : Option Addr} {m1 c1 : Nat} {ev gv2 : Value} {c : Int} {p : Bool} {k : Int} (h1 : psD1 A vars bs xss w3 (.agg #[.bool ex, v1, v2, .slice a1 m1 c1]) ev) (h2 : psD2 vars bs xss w4 gv2 c p k) :
    ∃ (o i : List Int) (yss : List (List Int)) (bo : Option Addr) (no co : Nat) (bi : Option Addr) (ni ci : Nat) (a2 : Option Addr) (c2 : Nat), gv2 = .agg #[.bool ex, .slice bo no co, .slice bi ni ci, .slice a2 m1 c2] ∧ yss.length = m1 ∧ Row w3 v1 o ∧ Row w3 v2 i ∧ RowsAt w3 a1 c1 yss ∧ Row w4 (.slice bo no co) o ∧ Row w4 (.slice bi ni ci) i ∧ RowsAt w4 a2 c2 yss ∧ ErrR A w3 ev c p k := by
  obtain ⟨ex', o, i, yss, ⟨vo, vi, a, cap, e1, g1, g2, g3⟩, ⟨vo', vi', a', cap', e2, k1, k2, k3⟩, he⟩ := ps_meet0 h1 h2
  simp only [Value.agg.injEq, Array.mk.injEq, List.cons.injEq, Value.bool.injEq, Value.slice.injEq, and_true] at e1
  obtain ⟨rfl, rfl, rfl, rfl, rfl, rfl⟩ := e1
  obtain ⟨bo, co, rfl, r1⟩ := k1
  obtain ⟨bi, ci, rfl, r2⟩ := k2
  exact ⟨o, i, yss, bo, _, co, bi, _, ci, a', cap', e2, rfl, g1, g2, g3, ⟨bo, co, rfl, r1⟩, ⟨bi, ci, rfl, r2⟩, k3, he⟩
theorem ps_norm {A : Nat → Addr} {w : World} {vars : Int} {bs : List Blk} {xss : List (List Int)} {e : Ending} {w' : World} (h : NormPost A w vars bs xss e w') : ∃ gv ev, e = .returned (.tuple #[gv, ev]) ∧ Below w.heap.size w w' ∧ psD1 A vars bs xss w' gv ev := h
theorem ps_norm2 {w : World} {vars : Int} {bs : List Blk} {xss : List (List Int)} {e : Ending} {w' : World} (h : Norm2Post w vars bs xss e w') : ∃ gv c p k, e = .returned (.tuple #[gv, faultV c p k]) ∧ Below w.heap.size w w' ∧ psD2 vars bs xss w' gv c p k := h
/-- Merged blocks, read. -/
theorem ps_rows {w : World} {B : Nat} {o : Value} {bs : List Blk} {vs : List Value} (h : MgG w B o bs vs) : ∃ a cap, o = .slice a bs.length cap ∧ BRowsAt w a cap bs := h.brow.rows
end Go.Proofs.YtcodmijphejfdaaDoor

namespace Go.Proofs.YtcodmijphejfdaaDoor
open Go.RowKit

set_option maxHeartbeats 2000000 in
theorem ps_dark (A : Nat → Addr) (vars : Int) (q : Option Addr) (d : Nat) (bs : List Blk) (a : Option Addr) (cap : Nat) (xss : List (List Int)) (w : World) (hS : Sents w A) (hq : BRowsAt w q d bs) (hr : RowsAt w a cap xss)
    (hlen : ∀ xs ∈ xss, xs.length ≤ 140737488355328) (hd : lightB bs xss = false) :
    Calls Tryd.prog 3 #[.agg #[.slice q bs.length d, .int .i64 vars, .slice a xss.length cap]] w fun e w' => e = .returned (.bool true) ∧ Below w.heap.size w w' := by
  have HF := Lib.hid (fun W (hW : Below w.heap.size w W) => first6_any A W (hS.keep hW).three)
  have HL := Lib.hid (fun W (hW : Below w.heap.size w W) => light_any vars q d bs a cap xss W (hq.keep hW) (hr.keep hW) hlen)
  have HB := Lib.hid (fun o => show Below w.heap.size w (w.alloc o) from (Below.refl _ w).alloc (Nat.le_refl _) _)
  rw [hd] at HL
  clear hS hq hr hlen hd
  generalize bs.length = nb at *
  generalize xss.length = n at *
  go_enter Tryd.func3, Tryd.ntmps3
  go_wp2_with (first
    | (go_at_call 5; refine (HF.out _ (HB.out _)).mono ?_; rintro e w1 ⟨rfl, hb1⟩; obtain ⟨g0, g1, g2⟩ := cells3 w w1 _ _ _ _ hb1; have HW1 := (HB.out _).trans (hb1.mono (by simp)))
    | (go_at_call 6; refine (HL.out _ HW1).mono ?_; rintro e w2 ⟨rfl, hb2⟩))
  (try go_ret)
  exact ⟨rfl, HW1.trans (hb2.mono HW1.size)⟩

set_option maxRecDepth 8000 in
set_option maxHeartbeats 8000000 in
theorem ps_lit (A : Nat → Addr) (vars : Int) (q : Option Addr) (d : Nat) (bs : List Blk) (a : Option Addr) (cap : Nat) (xss : List (List Int)) (w : World) (hS : Sents w A) (hq : BRowsAt w q d bs) (hr : RowsAt w a cap xss) (hv1 : -9223372036854775808 ≤ vars) (hv2 : vars ≤ 9223372036854775807)
    (hbb : ∀ b ∈ bs, ∀ y ∈ b.2, -9223372036854775808 ≤ y ∧ y ≤ 9223372036854775807) (hint : ∀ xs ∈ xss, ∀ y ∈ xs, -9223372036854775808 ≤ y ∧ y ≤ 9223372036854775807) (hd : lightB bs xss = true) :
    Calls Tryd.prog 3 #[.agg #[.slice q bs.length d, .int .i64 vars, .slice a xss.length cap]] w fun e w' => e = .returned (.bool true) ∧ Below w.heap.size w w' := by
  obtain ⟨hp1, hp2, hp3, hp4, hp5⟩ := ps_light hd
  have hi := ps_near hp3 hint
  have hvf := vars_few bs hp5
  have hl6 : ∀ xs ∈ xss, xs.length ≤ 1000000 := fun xs hx => by have := hp4 xs hx; omega
  have hff := flat_few xss hl6
  have hwb : ∀ v ∈ varsB bs, -9223372036854775808 ≤ v ∧ v ≤ 9223372036854775807 := fun v hv => by
    obtain ⟨b, hb, hvb⟩ := List.mem_flatMap.1 hv
    exact hbb b hb v hvb
  have HF := Lib.hid (fun W (hW : Below w.heap.size w W) => first6_any A W (hS.keep hW).three)
  have HL := Lib.hid (fun W (hW : Below w.heap.size w W) => light_any vars q d bs a cap xss W (hq.keep hW) (hr.keep hW) (fun xs hx => by have := hp4 xs hx; omega))
  have HN := Lib.hid (fun W (hW : Below w.heap.size w W) => (normG_any A vars q d bs a cap xss W (hS.keep hW).three hv1 hv2 (hq.keep hW) (hr.keep hW) hi (fun xs hx => by have := hp4 xs hx; omega) hwb (by omega) (by omega) (by omega) (by omega)).mono fun e w' h => ps_norm h)
  have HN2 := Lib.hid (fun W (hW : Below w.heap.size w W) => (norm2_any vars q d bs a cap xss W hv1 hv2 (hq.keep hW) (hr.keep hW) hi hp2 hl6 hp1 hp5).mono fun e w' h => ps_norm2 h)
  have HFR := Lib.hid (fun W (hW : Below w.heap.size w W) => free_any vars q d bs a cap xss W (hq.keep hW) (hr.keep hW) hi hwb (by omega) (by omega))
  have HFR2 := Lib.hid (fun W (hW : Below w.heap.size w W) => refFree_any vars q d bs a cap xss W (hq.keep hW) (hr.keep hW) hi (by omega) (by omega))
  have HME := Lib.hid (fun W (hW : Below w.heap.size w W) => merge_any q d bs W (hq.keep hW) (by omega) (by omega))
  have HME2 := Lib.hid (fun W (hW : Below w.heap.size w W) => refMerge_any q d bs W (hq.keep hW) (by omega) (by omega))
  have HSI := Lib.hid (fun v u W (h1 : Row W v (freeL bs xss)) (h2 : Row W u (freeL bs xss)) => sameInts_yes v u _ _ W h1 h2 rfl)
  have HSB := Lib.hid (fun a a' c c' W (h1 : BRowsAt W a c (mergeL bs)) (h2 : BRowsAt W a' c' (mergeL bs)) => sameBlocks_yes a a' c c' (mergeL bs) W h1 h2)
  have HSK := Lib.hid (fun W (hW : Below w.heap.size w W) => hS.keep hW)
  have HB := Lib.hid (fun o => show Below w.heap.size w (w.alloc o) from (Below.refl _ w).alloc (Nat.le_refl _) _)
  have HY := Lib.hid (fun ev c p k W (h : ErrAs W ev c p k) => see_yes ev c p k W h)
  have HC3 : Hid (∀ W, Below (w.alloc (.cells #[.slice q bs.length d, .int .i64 vars, .slice a xss.length cap] 27)).heap.size (w.alloc (.cells #[.slice q bs.length d, .int .i64 vars, .slice a xss.length cap] 27)) W → (W.cell? ⟨w.heap.size, 0, none⟩ = some (.slice q bs.length d) ∧ W.cell? ⟨w.heap.size, 1, none⟩ = some (.int .i64 vars) ∧ W.cell? ⟨w.heap.size, 2, none⟩ = some (.slice a xss.length cap)) ∧ Below w.heap.size w W) := fun W hW => ⟨cells3 w W _ _ _ _ hW, (HB.out _).trans (hW.mono (by simp))⟩
  unfold faultV at HN2 HY
  rw [hd] at HL
  clear hS hq hr hd hint hi hp1 hp2 hp3 hp4 hp5 hvf hff hl6 hwb hbb
  have HMT := Lib.hid (fun w3 w4 ex v1 v2 a1 m1 c1 ev gv2 c p k (h1 : psD1 A vars bs xss w3 (.agg #[.bool ex, v1, v2, .slice a1 m1 c1]) ev) (h2 : psD2 vars bs xss w4 gv2 c p k) => ps_meet h1 h2)
  have HSH := Lib.hid (fun w3 gv ev (h1 : psD1 A vars bs xss w3 gv ev) => ps_shape h1)
  generalize psD1 A vars bs xss = D1 at *
  generalize psD2 vars bs xss = D2 at *
  generalize freeL bs xss = fl at *
  generalize mergeL bs = ms at *
  generalize bs.length = nb at *
  generalize xss.length = n at *
  go_enter Tryd.func3, Tryd.ntmps3
  go_wp2_with (first
    | (go_at_call 5; refine (HF.out _ (HB.out _)).mono ?_; rintro e w1 ⟨rfl, hb1⟩; obtain ⟨⟨g0, g1, g2⟩, HW1⟩ := HC3.out w1 hb1)
    | (go_at_call 6; refine (HL.out _ HW1).mono ?_; rintro e w2 ⟨rfl, hb2⟩; have hc2 := hb1.trans (hb2.mono hb1.size); clear g0 g1 g2; obtain ⟨⟨g0, g1, g2⟩, HW2⟩ := HC3.out w2 hc2)
    | (go_at_call 7; refine (HN.out _ HW2).mono ?_; rintro e w3 ⟨gv, ev, rfl, hb3, hd1⟩; obtain ⟨ex, bo, no, co, bi, ni, ci, a1, m1, c1, rfl⟩ := HSH.out _ _ _ hd1; have hc3 := hc2.trans (hb3.mono hc2.size); have HX3 := Lib.hid (hc3.alloc hc3.size (.cells #[.bool ex, .slice bo no co, .slice bi ni ci, .slice a1 m1 c1] 32)); have HD1 := Lib.hid hd1; have HZ3 := Lib.hid hc3; clear hd1 g0 g1 g2; obtain ⟨⟨g0, g1, g2⟩, HW3⟩ := HC3.out _ HX3.out)
    | (go_at_call 8; refine (HN2.out _ HW3).mono ?_; rintro e w4 ⟨gv2, c, p, k, rfl, hb4, hd2⟩; obtain ⟨o, i, yss, b5, n5, c5, b6, n6, c6, a2, c2, rfl, hy, r1, r2, r3, k1, k2, k3, he⟩ := HMT.out _ _ _ _ _ _ _ _ _ _ _ _ _ HD1.out hd2; have HR := Lib.hid (And.intro hy (And.intro r1 (And.intro r2 (And.intro r3 (And.intro k1 (And.intro k2 (And.intro k3 he))))))); have HB4 := Lib.hid hb4; clear hd2 hy r1 r2 r3 k1 k2 k3 he))
  have H4W : Hid (∀ W, Below ((w4.alloc (.cells #[.bool ex, .slice b5 n5 c5, .slice b6 n6 c6, .slice a2 m1 c2] 32)).alloc (.cells #[.int .i64 c, .bool p, .int .i64 k] 38)).heap.size ((w4.alloc (.cells #[.bool ex, .slice b5 n5 c5, .slice b6 n6 c6, .slice a2 m1 c2] 32)).alloc (.cells #[.int .i64 c, .bool p, .int .i64 k] 38)) W → Below w4.heap.size w4 W ∧ Below w3.heap.size w3 W ∧ Below (w.alloc (.cells #[.slice q nb d, .int .i64 vars, .slice a n cap] 27)).heap.size (w.alloc (.cells #[.slice q nb d, .int .i64 vars, .slice a n cap] 27)) W) := fun W hW => by
    have h4 : Below w4.heap.size w4 W := (((Below.refl _ w4).alloc (Nat.le_refl _) _).alloc (by simp) _).trans (hW.mono (by simp; omega))
    have hx : Below (w3.alloc (.cells #[.bool ex, .slice bo no co, .slice bi ni ci, .slice a1 m1 c1] 32)).heap.size (w3.alloc (.cells #[.bool ex, .slice bo no co, .slice bi ni ci, .slice a1 m1 c1] 32)) W := HB4.out.trans (h4.mono HB4.out.size)
    exact ⟨h4, ((Below.refl _ w3).alloc (Nat.le_refl _) _).trans (hx.mono (by simp)), HX3.out.trans (hx.mono HX3.out.size)⟩
  have CK : Hid (∀ W, Below ((w4.alloc (.cells #[.bool ex, .slice b5 n5 c5, .slice b6 n6 c6, .slice a2 m1 c2] 32)).alloc (.cells #[.int .i64 c, .bool p, .int .i64 k] 38)).heap.size ((w4.alloc (.cells #[.bool ex, .slice b5 n5 c5, .slice b6 n6 c6, .slice a2 m1 c2] 32)).alloc (.cells #[.int .i64 c, .bool p, .int .i64 k] 38)) W → (W.cell? ⟨w.heap.size, 0, none⟩ = some (.slice q nb d) ∧ W.cell? ⟨w.heap.size, 1, none⟩ = some (.int .i64 vars) ∧ W.cell? ⟨w.heap.size, 2, none⟩ = some (.slice a n cap)) ∧ (W.cell? ⟨w3.heap.size, 0, none⟩ = some (.bool ex) ∧ W.cell? ⟨w3.heap.size, 1, none⟩ = some (.slice bo no co) ∧ W.cell? ⟨w3.heap.size, 2, none⟩ = some (.slice bi ni ci) ∧ W.cell? ⟨w3.heap.size, 3, none⟩ = some (.slice a1 m1 c1)) ∧ (W.cell? ⟨w4.heap.size, 0, none⟩ = some (.bool ex) ∧ W.cell? ⟨w4.heap.size, 1, none⟩ = some (.slice b5 n5 c5) ∧ W.cell? ⟨w4.heap.size, 2, none⟩ = some (.slice b6 n6 c6) ∧ W.cell? ⟨w4.heap.size, 3, none⟩ = some (.slice a2 m1 c2)) ∧ W.cell? ⟨w4.heap.size + 1, 0, none⟩ = some (.int .i64 c) ∧ W.cell? ⟨w4.heap.size + 1, 1, none⟩ = some (.bool p) ∧ W.cell? ⟨w4.heap.size + 1, 2, none⟩ = some (.int .i64 k)) := fun W hW => by
    obtain ⟨h4, h3, h0⟩ := H4W.out W hW
    have hx : Below (w3.alloc (.cells #[.bool ex, .slice bo no co, .slice bi ni ci, .slice a1 m1 c1] 32)).heap.size (w3.alloc (.cells #[.bool ex, .slice bo no co, .slice bi ni ci, .slice a1 m1 c1] 32)) W := HB4.out.trans (h4.mono HB4.out.size)
    have hy : Below (w4.alloc (.cells #[.bool ex, .slice b5 n5 c5, .slice b6 n6 c6, .slice a2 m1 c2] 32)).heap.size (w4.alloc (.cells #[.bool ex, .slice b5 n5 c5, .slice b6 n6 c6, .slice a2 m1 c2] 32)) W := ((Below.refl _ _).alloc (Nat.le_refl _) _).trans (hW.mono (by simp))
    have hz := cells3 (w4.alloc (.cells #[.bool ex, .slice b5 n5 c5, .slice b6 n6 c6, .slice a2 m1 c2] 32)) W _ _ _ _ hW
    rw [show (w4.alloc (.cells #[.bool ex, .slice b5 n5 c5, .slice b6 n6 c6, .slice a2 m1 c2] 32)).heap.size = w4.heap.size + 1 by simp] at hz
    exact ⟨(HC3.out W h0).1, smg_cells w3 W _ _ _ _ _ hx, smg_cells w4 W _ _ _ _ _ hy, hz⟩
  have HWW : Hid (∀ W, Below ((w4.alloc (.cells #[.bool ex, .slice b5 n5 c5, .slice b6 n6 c6, .slice a2 m1 c2] 32)).alloc (.cells #[.int .i64 c, .bool p, .int .i64 k] 38)).heap.size ((w4.alloc (.cells #[.bool ex, .slice b5 n5 c5, .slice b6 n6 c6, .slice a2 m1 c2] 32)).alloc (.cells #[.int .i64 c, .bool p, .int .i64 k] 38)) W → Below w.heap.size w W) := fun W hW => (HC3.out W (H4W.out W hW).2.2).2
  have HSG : Hid (∀ W, Below ((w4.alloc (.cells #[.bool ex, .slice b5 n5 c5, .slice b6 n6 c6, .slice a2 m1 c2] 32)).alloc (.cells #[.int .i64 c, .bool p, .int .i64 k] 38)).heap.size ((w4.alloc (.cells #[.bool ex, .slice b5 n5 c5, .slice b6 n6 c6, .slice a2 m1 c2] 32)).alloc (.cells #[.int .i64 c, .bool p, .int .i64 k] 38)) W → Calls Tryd.prog 9 #[.agg #[.bool ex, .slice bo no co, .slice bi ni ci, .slice a1 m1 c1], .agg #[.bool ex, .slice b5 n5 c5, .slice b6 n6 c6, .slice a2 m1 c2]] W fun e w' => e = .returned (.bool true) ∧ Below W.heap.size W w') := fun W hW => by
    obtain ⟨h4, h3, _⟩ := H4W.out W hW
    obtain ⟨hy, r1, r2, r3, k1, k2, k3, _⟩ := HR.out
    have := sameGame_yes ex _ _ _ _ o i a1 a2 c1 c2 yss W (r1.keep h3) (r2.keep h3) (k1.keep h4) (k2.keep h4) (r3.keep h3) (k3.keep h4)
    rw [hy] at this
    exact this
  have HSE : Hid (∀ W, Below ((w4.alloc (.cells #[.bool ex, .slice b5 n5 c5, .slice b6 n6 c6, .slice a2 m1 c2] 32)).alloc (.cells #[.int .i64 c, .bool p, .int .i64 k] 38)).heap.size ((w4.alloc (.cells #[.bool ex, .slice b5 n5 c5, .slice b6 n6 c6, .slice a2 m1 c2] 32)).alloc (.cells #[.int .i64 c, .bool p, .int .i64 k] 38)) W → Calls Tryd.prog 10 #[ev, .agg #[.int .i64 c, .bool p, .int .i64 k]] W fun e w' => e = .returned (.bool true) ∧ Below W.heap.size W w') := fun W hW => by
    obtain ⟨_, h3, _⟩ := H4W.out W hW
    obtain ⟨_, _, _, _, _, _, _, he⟩ := HR.out
    exact HY.out _ _ _ _ _ ((he.keep h3).seen (HSK.out W (HWW.out W hW)))
  clear H4W HR HY HSK HB4 HX3 HD1 HZ3 HC3 HMT HSH HN HN2 HF HL HB g0 g1 g2 hb1 hb2 hb3 hb4 hc2 hc3 HW1 HW2 HW3
  generalize ((w4.alloc (.cells #[.bool ex, .slice b5 n5 c5, .slice b6 n6 c6, .slice a2 m1 c2] 32)).alloc (.cells #[.int .i64 c, .bool p, .int .i64 k] 38)) = wB at *
  have hp5 : w4.heap.size + 1 = w4.heap.size + 1 := rfl
  generalize w3.heap.size = p3 at *
  generalize w4.heap.size = p4 at *
  clear hp5
  go_region_held3 (fun W => (W.cell? ⟨w.heap.size, 0, none⟩ = some (.slice q nb d) ∧ W.cell? ⟨w.heap.size, 1, none⟩ = some (.int .i64 vars) ∧ W.cell? ⟨w.heap.size, 2, none⟩ = some (.slice a n cap)) ∧ (W.cell? ⟨p3, 0, none⟩ = some (.bool ex) ∧ W.cell? ⟨p3, 1, none⟩ = some (.slice bo no co) ∧ W.cell? ⟨p3, 2, none⟩ = some (.slice bi ni ci) ∧ W.cell? ⟨p3, 3, none⟩ = some (.slice a1 m1 c1)) ∧ (W.cell? ⟨p4, 0, none⟩ = some (.bool ex) ∧ W.cell? ⟨p4, 1, none⟩ = some (.slice b5 n5 c5) ∧ W.cell? ⟨p4, 2, none⟩ = some (.slice b6 n6 c6) ∧ W.cell? ⟨p4, 3, none⟩ = some (.slice a2 m1 c2)) ∧ W.cell? ⟨p4 + 1, 0, none⟩ = some (.int .i64 c) ∧ W.cell? ⟨p4 + 1, 1, none⟩ = some (.bool p) ∧ W.cell? ⟨p4 + 1, 2, none⟩ = some (.int .i64 k)) (first | exact CK.out _ (Below.refl _ _).drew | exact CK.out _ hb5 | exact CK.out _ hb6 | exact CK.out _ hb7 | exact CK.out _ hb8 | exact CK.out _ hb9 | exact CK.out _ hb10 | exact CK.out _ hb11 | exact CK.out _ hb12) (first
    | (go_at_call 9; refine (HSG.out _ (by first | exact (Below.refl _ _).drew | exact Below.refl _ _ | exact below_drewN (Below.refl _ _) _)).mono ?_; rintro e w5 ⟨rfl, hb5'⟩; have hb5 : Below wB.heap.size wB w5 := below_call (by first | exact (Below.refl _ _).drew | exact Below.refl _ _ | exact below_drewN (Below.refl _ _) _) (by first | exact Nat.le_refl _ | simp) hb5'; clear hb5')
    | (go_at_call 10; refine (HSE.out _ hb5).mono ?_; rintro e w6 ⟨rfl, hb6'⟩; have hb6 : Below wB.heap.size wB w6 := hb5.trans (hb6'.mono hb5.size); clear hb6')
    | (go_at_call 12; refine (HFR.out _ (HWW.out _ hb6)).mono ?_; rintro e w7 ⟨⟨fv, rfl, hf7⟩, hb7'⟩; have hb7 : Below wB.heap.size wB w7 := hb6.trans (hb7'.mono hb6.size); have HF7 := Lib.hid hf7; clear hb7' hf7)
    | (go_at_call 13; refine (HFR2.out _ (HWW.out _ hb7)).mono ?_; rintro e w8 ⟨⟨fv2, rfl, hf8⟩, hb8'⟩; have hb8 : Below wB.heap.size wB w8 := hb7.trans (hb8'.mono hb7.size); have HF8 := Lib.hid (And.intro (HF7.out.keep hb8') hf8); clear hb8' hf8)
    | (go_at_call 11; refine (HSI.out _ _ _ HF8.out.1 HF8.out.2).mono ?_; rintro e w9 ⟨rfl, hb9'⟩; have hb9 : Below wB.heap.size wB w9 := hb8.trans (hb9'.mono hb8.size); clear hb9')
    | (go_at_call 15; refine (HME.out _ (HWW.out _ hb9)).mono ?_; rintro e w10 ⟨⟨mv, vs, rfl, hm10⟩, hb10'⟩; have hb10 : Below wB.heap.size wB w10 := hb9.trans (hb10'.mono hb9.size); obtain ⟨a10, c10, rfl, hr10⟩ := ps_rows hm10; have HR10 := Lib.hid hr10; clear hb10' hm10 hr10)
    | (go_at_call 16; refine (HME2.out _ (HWW.out _ hb10)).mono ?_; rintro e w11 ⟨⟨mv, vs, rfl, hm11⟩, hb11'⟩; have hb11 : Below wB.heap.size wB w11 := hb10.trans (hb11'.mono hb10.size); obtain ⟨a11, c11, rfl, hr11⟩ := ps_rows hm11; have HR11 := Lib.hid (And.intro (HR10.out.keep hb11') hr11); clear hb11' hm11 hr11)
    | (go_at_call 14; refine (HSB.out _ _ _ _ _ HR11.out.1 HR11.out.2).mono ?_; rintro e w12 ⟨rfl, hb12'⟩; have hb12 : Below wB.heap.size wB w12 := hb11.trans (hb12'.mono hb11.size); clear hb12'))
  all_goals
    go_wp2_with fail
    go_ret
    exact ⟨rfl, HWW.out _ hb12⟩

theorem lawPs_any (A : Nat → Addr) (vars : Int) (q : Option Addr) (d : Nat) (bs : List Blk) (a : Option Addr) (cap : Nat) (xss : List (List Int)) (w : World) (hS : Sents w A) (hq : BRowsAt w q d bs) (hr : RowsAt w a cap xss) (hv1 : -9223372036854775808 ≤ vars) (hv2 : vars ≤ 9223372036854775807)
    (hbb : ∀ b ∈ bs, ∀ y ∈ b.2, -9223372036854775808 ≤ y ∧ y ≤ 9223372036854775807) (hint : ∀ xs ∈ xss, ∀ y ∈ xs, -9223372036854775808 ≤ y ∧ y ≤ 9223372036854775807) (hlen : ∀ xs ∈ xss, xs.length ≤ 140737488355328) :
    Calls Tryd.prog 3 #[.agg #[.slice q bs.length d, .int .i64 vars, .slice a xss.length cap]] w fun e w' => e = .returned (.bool true) ∧ Below w.heap.size w w' := by
  cases hd : lightB bs xss with
  | false => exact ps_dark A vars q d bs a cap xss w hS hq hr hlen hd
  | true => exact ps_lit A vars q d bs a cap xss w hS hq hr hv1 hv2 hbb hint hd
end Go.Proofs.YtcodmijphejfdaaDoor
