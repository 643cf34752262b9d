/- From the way in which an argument is handed over (a row of ints in memory) to 'RowAt'. No conditions beyond those typed. · From the way in which an argument is handed over (a row of ints, a slice of such rows) to 'RowAt', 'RowsAt', with the rows' bounds and the reach. No conditions beyond those typed. · The contract of skolemmake.Clauses as a function of the numbers. Conditions: the slice reads as 64-bit ints and is short; 1 to 100 variables. · What holds of the first model: it makes all true; there is none where there is none; more clauses have no more. Plain. · Two rows of clauses joined by append, the second one's memory younger. Conditions: both are of the call's own. · SlowSats: the drawn clauses as a function of the numbers, right and few; joined. Conditions: those typed. · The law SlowSats: true for whatever arguments. Conditions: the slices read as 64-bit ints; the two errors lie as 'Sents2' says. -/
import Derived.Test.YtjpchjbpolcndaaDoorBase
import Derived.OpenShut
import Derived.Test.YtjpchjbpolcndaaDoorCheckP
import Derived.Test.YtjpchjbpolcndaaDoorRows
import Derived.Deep.Matrix
import Derived.SizedLaws
import Derived.Lib.SmallJoins
import Derived.Test.YtjpchjbpolcndaaDoorMakeC
import Derived.Test.YtjpchjbpolcndaaDoorSlE
import Derived.Test.YtjpchjbpolcndaaDoorGen
import Derived.Test.YtjpchjbpolcndaaDoorBrow
import Derived.Test.YtjpchjbpolcndaaDoorSayAll
import Derived.Test.YtjpchjbpolcndaaDoorRead
namespace Go.Proofs.YtjpchjbpolcndaaDoor
open Go.RowKit

theorem rowOf {w : World} {a : Option Addr} {len cap : Nat} {zs : List Int}
    (h : (a = none ∧ len = 0 ∧ cap = 0 ∧ zs = []) ∨ ∃ x, a = some x ∧ len ≤ cap ∧ cap ≤ maxLen ∧ zs.length = cap ∧ (∀ i, i < zs.length → w.cell? (x.add i) = some (.int .i64 (zs.getD i 0))) ∧ ∀ n ∈ zs, (Lit.int .i64 n).wf = true) :
    ∃ xs : List Int, xs.length = len ∧ RowAt w a cap xs ∧ ∀ y ∈ xs, -9223372036854775808 ≤ y ∧ y ≤ 9223372036854775807 := by
  rcases h with ⟨rfl, rfl, rfl, rfl⟩ | ⟨x, rfl, hl, hm, hz, hc, hw⟩
  · exact ⟨[], rfl, ⟨by simp, by unfold maxLen; omega, .inl rfl⟩, by simp⟩
  · refine ⟨zs.take len, by simp; omega, ⟨by simp; omega, hm, ?_⟩, fun y hy => bounds_i64 (hw y (List.mem_of_mem_take hy))⟩
    by_cases h0 : len = 0
    · left; simp [h0]
    · right
      obtain ⟨b, off, spot⟩ := x
      have h1 := hc 0 (by omega)
      have hs : spot = none := by simpa [Addr.add] using World.cell?_spot h1
      subst hs
      refine ⟨b, off, rfl, World.block_lt_of_cell? w _ h1, fun i hi => ?_⟩
      have hi' : i < len := by simp at hi; omega
      have h2 := hc i (by omega)
      have he : (⟨b, off, none⟩ : Addr).add i = ⟨b, off + i, none⟩ := by
        by_cases e : i = 0
        · subst e; rfl
        · simp [Addr.add, e]
      rw [he] at h2
      rw [h2]
      simp [List.getD, hi']
end Go.Proofs.YtjpchjbpolcndaaDoor

namespace Go.Proofs.YtjpchjbpolcndaaDoor
open Go.RowKit Go.ChangeShapes Go.WideShapes Go.ChangeAt Go.Deep Go.Joins

theorem cellsInt : Tryd.prog.cellsOf 3 = 1 := by kernel_rfl
theorem cellsInts : Tryd.prog.cellsOf 22 = 1 := by kernel_rfl
theorem bytesInt : Tryd.prog.bytesOf 3 = 8 := by kernel_rfl

set_option maxRecDepth 100000 in
theorem open_row {H : Type} {enc : TypeId × Value → H} {W : World} {base : Nat} {v : Value} {d : DataW H} {p : List MemPlace} (hv : Value.okWide Tryd.prog W .any base 22 v) (h : DataW.Trod enc Tryd.prog W 0 (fun _ => true) true 22 v d p) :
    ∃ a cap xs, v = .slice a (List.length xs) cap ∧ RowAt W a cap xs ∧ ∀ y ∈ xs, -9223372036854775808 ≤ y ∧ y ≤ 9223372036854775807 := by
  obtain ⟨a0, len0, cap0, rfl⟩ := okWide_slice Tryd.underlying22 hv
  obtain ⟨fuel, hf⟩ := h
  rcases open_ints Tryd.underlying22 Tryd.underlying3 cellsInt hf with ⟨hcs, _⟩ | ⟨x, l, c, zs, hcs, _, hl, hm, hz, _, hcell, hwz⟩
  · simp [Value.cells] at hcs
    obtain ⟨rfl, rfl, rfl⟩ := hcs
    exact ⟨none, 0, [], rfl, ⟨Nat.le_refl _, by unfold maxLen; omega, .inl rfl⟩, by simp⟩
  · simp [Value.cells] at hcs
    obtain ⟨rfl, rfl, rfl⟩ := hcs
    obtain ⟨xs, hx, hr, hb⟩ := rowOf (.inr ⟨x, rfl, hl, hm, by simpa using hz, hcell, hwz⟩)
    exact ⟨some x, cap0, xs, by rw [hx], hr, hb⟩

theorem weightsAll_mem' {H : Type} {P : Program} {e : TypeId} : ∀ {l : List (DataW H)} {d : DataW H}, d ∈ l → ∀ n ∈ d.weights P e, n ∈ DataW.weightsAll P e l
  | d' :: r, d, hd, n, hn => by
    simp only [DataW.weightsAll, List.mem_append]
    rcases List.mem_cons.1 hd with rfl | h
    · exact Or.inl hn
    · exact Or.inr (weightsAll_mem' h n hn)

theorem open_rows {H : Type} {enc : TypeId × Value → H} {W : World} {n : Nat} {v : Value} {y : DataW H × List MemPlace} (h : DataW.trod enc Tryd.prog W 0 (fun _ => true) true n 24 [v] = some y) :
    ∃ a cap xss, v = .slice a (List.length xss) cap ∧ RowsAt W a cap xss ∧ (∀ xs ∈ xss, ∀ z ∈ xs, -9223372036854775808 ≤ z ∧ z ≤ 9223372036854775807) ∧
      ((∀ m ∈ y.1.weights Tryd.prog 24, m ≤ reachBytes) → ∀ xs ∈ xss, xs.length ≤ 140737488355328) := by
  rcases open_int_rows Tryd.underlying24 Tryd.underlying22 Tryd.underlying3 cellsInts cellsInt h with ⟨hcs, _⟩ | ⟨a, len, cap, Af, L, C, Z, hcs, _, hl, hm, hx, hr⟩
  · simp at hcs
    subst hcs
    exact ⟨none, 0, [], rfl, ⟨Nat.le_refl _, by unfold maxLen; omega, .inl rfl⟩, by simp, by simp⟩
  · simp at hcs
    subst hcs
    have hgt : ∀ i, i < len → (((List.range len).map fun r => (Z r).take (L r)).getD i []) = (Z i).take (L i) := fun i hi => by simp [List.getD, hi]
    refine ⟨some a, cap, (List.range len).map fun r => (Z r).take (L r), by simp, ⟨by simpa using hl, hm, ?_⟩, ?_, ?_⟩
    · rcases Nat.eq_zero_or_pos len with h0 | h0
      · left; simp [h0]
      · right
        obtain ⟨b, off, spot⟩ := a
        have h1 := (hr 0 (by omega)).1
        have hs : spot = none := by simpa [Addr.add] using World.cell?_spot h1
        subst hs
        have he : ∀ (b off i : Nat), (⟨b, off, none⟩ : Addr).add i = ⟨b, off + i, none⟩ := fun b off i => by
          by_cases e : i = 0
          · subst e; rfl
          · simp [Addr.add, e]
        refine ⟨b, off, rfl, World.block_lt_of_cell? W _ h1, fun i hi => ?_⟩
        have hi' : i < len := by simpa using hi
        obtain ⟨c1, c2, c3, c4, c5, c6, c7⟩ := hr i (by omega)
        rw [he] at c1
        refine ⟨_, c1, ?_⟩
        rw [hgt i hi']
        have hlen : ((Z i).take (L i)).length = L i := by simp; omega
        refine ⟨Af i, C i, by rw [hlen], by omega, c3, ?_⟩
        cases ha : Af i with
        | none => left; have := c6 ha; omega
        | some a' =>
          by_cases hz : L i = 0
          · left; omega
          · right
            obtain ⟨_, c8⟩ := c7 a' ha
            obtain ⟨b', off', spot'⟩ := a'
            have h2 := c8 0 (by omega)
            have hs : spot' = none := by simpa [Addr.add] using World.cell?_spot h2
            subst hs
            refine ⟨b', off', rfl, World.block_lt_of_cell? W _ h2, fun j hj => ?_⟩
            have hj' : j < L i := by omega
            have h3 := c8 j (by omega)
            rw [he] at h3
            rw [h3]
            simp [List.getD, hj']
    · intro xs hxs z hz
      obtain ⟨r, hr', rfl⟩ := List.mem_map.1 hxs
      have hrl : r < len := by simpa using hr'
      obtain ⟨_, _, _, _, c5, _⟩ := hr r (by omega)
      exact bounds_i64 (c5 z (List.mem_of_mem_take hz))
    · intro hw xs hxs
      obtain ⟨r, hr', rfl⟩ := List.mem_map.1 hxs
      have hrl : r < len := by simpa using hr'
      obtain ⟨_, c2, _, c4, _, c6, _⟩ := hr r (by omega)
      have hle : ((Z r).take (L r)).length = L r := by simp; omega
      rw [hle]
      cases ha : Af r with
      | none => have := c6 ha; omega
      | some a' =>
        have hmem : (L r + (C r - L r)) * 8 ∈ y.1.weights Tryd.prog 24 := by
          rw [hx]
          simp only [DataW.weights, Tryd.underlying24, List.mem_cons, List.mem_append]
          refine .inr (.inl (weightsAll_mem' (d := intRow .i64 (Af r) (L r) (Z r)) (List.mem_map.2 ⟨r, by simpa using hrl, rfl⟩) _ ?_))
          rw [ha]
          simp [intRow, DataW.weights, Tryd.underlying22, bytesInt, lits]
          left
          omega
        have := hw _ hmem
        have hrb : reachBytes = 140737488351232 := rfl
        omega

/-- The weights of a formula's clauses are among the formula's. -/
theorem cnf_weights {H : Type} {x y : DataW H} {m : Nat} (h : m ∈ y.weights Tryd.prog 24) : m ∈ (DataW.agg [x, y]).weights Tryd.prog 30 := by
  simp only [DataW.weights, Tryd.underlying30]
  simpa [DataW.weightsEach] using Or.inr h
end Go.Proofs.YtjpchjbpolcndaaDoor

namespace Go.Proofs.YtjpchjbpolcndaaDoor
open Go.RowKit

/-- One number more: the clauses done, the clause begun. -/
def stepC (m : Int) (s : List (List Int) × List Int) (z : Int) : List (List Int) × List Int :=
  if (z % 7 = 0 ∧ s.2.length ≠ 0) ∨ 5 ≤ s.2.length then (s.1 ++ [s.2], [litOf (z % 1099511627776 / 7) m]) else (s.1, s.2 ++ [litOf (z % 1099511627776 / 7) m])
def FC (m : Int) (cs : List Int) (k : Nat) (dn : List (List Int)) (cur : List Int) : Prop := (cs.take k).foldl (stepC m) ([], []) = (dn, cur)
/-- The clauses made of these numbers. -/
def clsOf (m : Int) (cs : List Int) : List (List Int) :=
  if (cs.foldl (stepC m) ([], [])).2.length = 0 then (cs.foldl (stepC m) ([], [])).1 else (cs.foldl (stepC m) ([], [])).1 ++ [(cs.foldl (stepC m) ([], [])).2]
theorem FC.start (m : Int) (cs : List Int) : FC m cs 0 [] [] := rfl
theorem FC.step {m : Int} {cs : List Int} {k : Nat} {dn : List (List Int)} {cur : List Int} (h : FC m cs k dn cur) (hk : k < cs.length) : (cs.take (k + 1)).foldl (stepC m) ([], []) = stepC m (dn, cur) (cs.getD k 0) := by
  unfold FC at h
  rw [List.take_succ_eq_append_getElem hk, List.foldl_append, h]
  simp [List.getD, hk]
theorem FC.stay {m : Int} {cs : List Int} {k : Nat} {dn : List (List Int)} {cur : List Int} (h : FC m cs k dn cur) (hk : k < cs.length) (y : Int) (hy : y = cs.getD k 0 % 1099511627776 / 7) (h1 : cs.getD k 0 % 7 = 0 → cur.length = 0) (h2 : ¬ 5 ≤ cur.length) : FC m cs (k + 1) dn (cur ++ [litOf y m]) := by
  unfold FC
  rw [h.step hk]
  unfold stepC
  rw [if_neg, hy]
  rintro (⟨g1, g2⟩ | g)
  · exact g2 (h1 g1)
  · exact h2 g
theorem FC.push {m : Int} {cs : List Int} {k : Nat} {dn : List (List Int)} {cur : List Int} (h : FC m cs k dn cur) (hk : k < cs.length) (y : Int) (hy : y = cs.getD k 0 % 1099511627776 / 7) (h1 : (cs.getD k 0 % 7 = 0 ∧ cur.length ≠ 0) ∨ 5 ≤ cur.length) : FC m cs (k + 1) (dn ++ [cur]) ([] ++ [litOf y m]) := by
  unfold FC
  rw [h.step hk]
  unfold stepC
  rw [if_pos h1, hy]
  rfl
theorem FC.none {m : Int} {cs : List Int} {k : Nat} {dn : List (List Int)} (h : FC m cs k dn []) (hk : cs.length = k) : clsOf m cs = dn := by
  unfold FC at h
  rw [← hk, List.take_length] at h
  unfold clsOf
  rw [h]
  rfl
theorem FC.some {m : Int} {cs : List Int} {k : Nat} {dn : List (List Int)} {cur : List Int} (h : FC m cs k dn cur) (hk : cs.length = k) (hc : cur ≠ []) : clsOf m cs = dn ++ [cur] := by
  unfold FC at h
  rw [← hk, List.take_length] at h
  unfold clsOf
  rw [h, if_neg]
  exact fun e => hc (List.length_eq_zero_iff.1 e)
def MakePostF (w : World) (cs : List Int) (m : Int) (e : Ending) (w' : World) : Prop :=
  (∃ v, e = .returned v ∧ CRow w' w.heap.size v (clsOf m cs) ∧ (∀ c ∈ clsOf m cs, ∀ l ∈ c, l ≠ 0 ∧ isF l m = true) ∧ ((clsOf m cs).map List.length).sum ≤ cs.length ∧ (clsOf m cs).length ≤ cs.length) ∧ Below w.heap.size w w'

set_option maxRecDepth 4000 in
set_option maxHeartbeats 4000000 in
theorem makeClF_any (a : Option Addr) (c : Nat) (cs : List Int) (m : Int) (w : World) (hm1 : 1 ≤ m) (hm2 : m ≤ 100) (hv : RowAt w a c cs) (hcs : ∀ y ∈ cs, -9223372036854775808 ≤ y ∧ y ≤ 9223372036854775807) (hn : cs.length ≤ 200) :
    Calls Tryd.prog 24 #[.slice a cs.length c, .int .i64 m] w (MakePostF w cs m) := by
  obtain ⟨hvc, hcm, hv⟩ := hv
  unfold maxLen at hcm
  have HX := Lib.hid hv; clear hv
  have HC := Lib.hid (fun k => show -9223372036854775808 ≤ cs.getD k 0 ∧ cs.getD k 0 ≤ 9223372036854775807 by
    by_cases hk : k < cs.length
    · have := hcs _ (List.getElem_mem hk); simpa [List.getD, hk] using this
    · simp [List.getD, show cs.length ≤ k by omega])
  clear hcs
  unfold MakePostF
  generalize hnn : cs.length = n at *
  have HN := Lib.hid hnn
  clear hnn
  go_enter Tryd.func24, Tryd.ntmps24
  go_wp2_with fail
  go_loopw [5, 6, 7] (fun o c i wr => ∃ (k : Nat) (vs : List Value) (dn : List (List Int)) (cur : List Int), k ≤ n ∧ i = .int .i64 k ∧ ClG wr w.heap.size o c vs dn cur ∧ Below w.heap.size w wr ∧ dn.length ≤ k ∧ cur.length ≤ k ∧ Hid (Good m dn cur k) ∧ Hid (FC m cs k dn cur)) (fun _ _ i _ => n - (intOf i).toNat)
  case atStart => exact ⟨0, _, _, _, Nat.zero_le _, rfl, ClG.start w _, Below.refl _ _, Nat.le_refl _, Nat.le_refl _, Good.start m, FC.start m cs⟩
  case round =>
    obtain ⟨k, vs, dn, cur, hk, rfl, hI, hbr, hl1, hl2, HG0, HF0⟩ := hrel
    have hownc := hI.row
    obtain ⟨ac, capc, rfl, hcc1, hcc2⟩ := own_shape hI.row
    unfold maxLen at hcc2
    by_cases hlt : k < n
    · obtain ⟨b, off, ha, hb, hx⟩ := HX.out.resolve_left (by omega)
      subst ha
      have HG := Lib.hid (fun W (h : Below w.heap.size w W) => (h.cell (p := ⟨b, off + k, none⟩) hb).trans (hx k hlt))
      have hbd := HC.out k
      have HS1 := Lib.hid (fun (y : Int) (hy : y = cs.getD k 0 % 1099511627776 / 7) (h1 : cs.getD k 0 % 7 = 0 → cur.length = 0) (h2 : ¬ 5 ≤ cur.length) => FC.stay HF0.out (by rw [HN.out]; exact hlt) y hy h1 h2)
      have HS2 := Lib.hid (fun (y : Int) (hy : y = cs.getD k 0 % 1099511627776 / 7) (h1 : (cs.getD k 0 % 7 = 0 ∧ cur.length ≠ 0) ∨ 5 ≤ cur.length) => FC.push HF0.out (by rw [HN.out]; exact hlt) y hy h1)
      clear HF0
      clear hx
      generalize cs.getD k 0 = z at *
      obtain ⟨hz1, hz2⟩ := hbd
      have g1 := HG.out _ hbr
      have N7 := Lib.hid (fun W => number_any z 7 W (by omega) (by omega) hz1 hz2)
      have NB := Lib.hid (fun W => number_big z W hz1 hz2)
      have hx1 := Int.emod_nonneg z (show (1099511627776 : Int) ≠ 0 by omega)
      have hx2 := Int.emod_lt_of_pos z (show (0 : Int) < 1099511627776 by omega)
      have hr1 := Int.emod_nonneg z (show (7 : Int) ≠ 0 by omega)
      generalize z % 7 = r at *
      generalize z % 1099511627776 = x at *
      have LT := Lib.hid (fun (y : Int) W (h1 : -9223372036854775808 ≤ y) (h2 : y ≤ 9223372036854775807) => lit_any y m W (by omega) (by omega) h1 h2)
      have HBR := Lib.hid hbr
      clear hbr
      have hd1 := Int.tdiv_nonneg hx1 (show (0 : Int) ≤ 7 by omega)
      have hd2 := Int.tdiv_le_self 7 hx1
      have hl3 : cur = [] ↔ cur.length = 0 := List.length_eq_zero_iff.symm
      have HX1 := Lib.hid hx1
      by_cases hr0 : r = 0
      · subst hr0
        by_cases hc0 : cur.length = 0
        · have HQ1 : Hid ((0 : Int) = 0 → cur.length = 0) := fun _ => hc0
          have HQ2 : Hid (¬ 5 ≤ cur.length) := fun h => by omega
          generalize hcl : cur.length = cl at *
          subst hc0
          have HCL := Lib.hid hcl
          clear hl3 hcl
          go_wp2_with (first
            | (go_at_call_of 26 (Value.int IntKind.i64 (7 : Int)); refine (N7.out _).mono ?_; rintro e w' ⟨rfl, rfl⟩)
            | (go_at_call 26; refine (NB.out _).mono ?_; rintro e w' ⟨rfl, rfl⟩)
            | (go_at_call 22; refine (LT.out _ _ (by omega) (by omega)).mono ?_; rintro e w' ⟨rfl, rfl⟩)
            | (at_builtin; refine wpList_app1 rfl _ _ rfl wr w.heap.size _ _ _ _ hownc HBR.out.size (by omega) rfl rfl ?_; intro v' w2 hown2 hap))
          go_roundw
          case rel => exact ⟨k + 1, vs, dn, cur ++ [_], by omega, by go_num, hI.add hap (by rw [HCL.out]; exact hown2), HBR.out.trans hap.below, by omega, by rw [List.length_append, HCL.out, List.length_singleton]; omega, HG0.out.add _ hm1, HS1.out _ (by first | rfl | exact Int.tdiv_eq_ediv_of_nonneg HX1.out) HQ1.out HQ2.out⟩
          case measure => go_light; simp [intOf]; omega
        · have hne : cur ≠ [] := fun e => hc0 (hl3.1 e)
          have HQ3 : Hid (((0 : Int) = 0 ∧ cur.length ≠ 0) ∨ 5 ≤ cur.length) := .inl ⟨rfl, hc0⟩
          clear hl3
          generalize hcl : cur.length = cl at *
          have HCL := Lib.hid hcl
          clear hcl
          go_wp2_with (first
            | (go_at_call_of 26 (Value.int IntKind.i64 (7 : Int)); refine (N7.out _).mono ?_; rintro e w' ⟨rfl, rfl⟩)
            | (go_at_call 26; refine (NB.out _).mono ?_; rintro e w' ⟨rfl, rfl⟩)
            | (go_at_call 22; refine (LT.out _ _ (by omega) (by omega)).mono ?_; rintro e w' ⟨rfl, rfl⟩)
            | (at_builtin; refine wpList_appV 24 22 (.slice none 0 0) 24 Tryd.underlying24 infoInts rfl (by decide) rfl _ _ rfl wr w.heap.size _ _ _ _ rfl hI.out HBR.out.size (by omega) _ rfl rfl rfl ?_; intro o' w2 ho2 hap2; have hI2 := hI.push hap2 ho2; have HB2 := Lib.hid (HBR.out.trans hap2.below); have g2 := HG.out _ HB2.out)
            | (at_builtin; refine wpList_app1 rfl _ _ rfl w2 w.heap.size _ _ _ _ hI2.row HB2.out.size (by simp) rfl rfl ?_; intro v' w3 hown3 hap3))
          go_roundw
          case rel => exact ⟨k + 1, _, _, [] ++ [_], by omega, by go_num, hI2.add hap3 hown3, HB2.out.trans hap3.below, by simp; omega, by simp, (HG0.out.push hne).add _ hm1, HS2.out _ (by first | rfl | exact Int.tdiv_eq_ediv_of_nonneg HX1.out) HQ3.out⟩
          case measure => go_light; simp [intOf]; omega
      · have hr0b : (r == 0) = false := by simp [hr0]
        by_cases hc5 : 5 ≤ cur.length
        · have hne : cur ≠ [] := fun e => by have := hl3.1 e; omega
          have HQ3 : Hid ((r = 0 ∧ cur.length ≠ 0) ∨ 5 ≤ cur.length) := .inr hc5
          clear hl3 hr0
          generalize hcl : cur.length = cl at *
          have HCL := Lib.hid hcl
          clear hcl
          go_wp2_with (first
            | (go_at_call_of 26 (Value.int IntKind.i64 (7 : Int)); refine (N7.out _).mono ?_; rintro e w' ⟨rfl, rfl⟩)
            | (go_at_call 26; refine (NB.out _).mono ?_; rintro e w' ⟨rfl, rfl⟩)
            | (go_at_call 22; refine (LT.out _ _ (by omega) (by omega)).mono ?_; rintro e w' ⟨rfl, rfl⟩)
            | (at_builtin; refine wpList_appV 24 22 (.slice none 0 0) 24 Tryd.underlying24 infoInts rfl (by decide) rfl _ _ rfl wr w.heap.size _ _ _ _ rfl hI.out HBR.out.size (by omega) _ rfl rfl rfl ?_; intro o' w2 ho2 hap2; have hI2 := hI.push hap2 ho2; have HB2 := Lib.hid (HBR.out.trans hap2.below); have g2 := HG.out _ HB2.out)
            | (at_builtin; refine wpList_app1 rfl _ _ rfl w2 w.heap.size _ _ _ _ hI2.row HB2.out.size (by simp) rfl rfl ?_; intro v' w3 hown3 hap3))
          go_roundw
          case rel => exact ⟨k + 1, _, _, [] ++ [_], by omega, by go_num, hI2.add hap3 hown3, HB2.out.trans hap3.below, by simp; omega, by simp, (HG0.out.push hne).add _ hm1, HS2.out _ (by first | rfl | exact Int.tdiv_eq_ediv_of_nonneg HX1.out) HQ3.out⟩
          case measure => go_light; simp [intOf]; omega
        · have HQ1 : Hid (r = 0 → cur.length = 0) := fun h => absurd h hr0
          have HQ2 : Hid (¬ 5 ≤ cur.length) := hc5
          clear hl3 hr0
          generalize hcl : cur.length = cl at *
          have HCL := Lib.hid hcl
          clear hcl
          go_wp2_with (first
            | (go_at_call_of 26 (Value.int IntKind.i64 (7 : Int)); refine (N7.out _).mono ?_; rintro e w' ⟨rfl, rfl⟩)
            | (go_at_call 26; refine (NB.out _).mono ?_; rintro e w' ⟨rfl, rfl⟩)
            | (go_at_call 22; refine (LT.out _ _ (by omega) (by omega)).mono ?_; rintro e w' ⟨rfl, rfl⟩)
            | (at_builtin; refine wpList_app1 rfl _ _ rfl wr w.heap.size _ _ _ _ hownc HBR.out.size (by omega) rfl rfl ?_; intro v' w2 hown2 hap))
          go_roundw
          case rel => exact ⟨k + 1, vs, dn, cur ++ [_], by omega, by go_num, hI.add hap (by rw [HCL.out]; exact hown2), HBR.out.trans hap.below, by omega, by rw [List.length_append, HCL.out, List.length_singleton]; omega, HG0.out.add _ hm1, HS1.out _ (by first | rfl | exact Int.tdiv_eq_ediv_of_nonneg HX1.out) HQ1.out HQ2.out⟩
          case measure => go_light; simp [intOf]; omega
    · by_cases hc0 : cur.length = 0
      · have hc0' : cur = [] := List.length_eq_zero_iff.1 hc0
        subst hc0'
        obtain ⟨ao, capo, rfl, hrows⟩ := hI.rows
        have HRW := Lib.hid (show CRow _ _ _ _ from ⟨_, _, _, hI⟩)
        have HBR := Lib.hid hbr
        clear hrows hI hownc hc0 hbr hl2 hcc1 hcc2
        have hkn : k = n := by omega
        subst hkn
        go_wp2_with fail
        go_ret
        rw [FC.none HF0.out HN.out]
        exact ⟨⟨_, rfl, HRW.out, HG0.out.last⟩, HBR.out⟩
      · have hne : cur ≠ [] := fun e => hc0 (by rw [e]; rfl)
        have hkn : k = n := by omega
        have HBR := Lib.hid hbr
        clear hbr
        generalize hcl : cur.length = cl at *
        have HCL := Lib.hid hcl
        clear hcl
        go_wp2_with (at_builtin; refine wpList_appV 24 22 (.slice none 0 0) 24 Tryd.underlying24 infoInts rfl (by decide) rfl _ _ rfl wr w.heap.size _ _ _ _ rfl hI.out HBR.out.size (by omega) _ rfl rfl rfl ?_; intro o' w2 ho2 hap2; have hI2 := hI.push hap2 ho2; have HB2 := Lib.hid (HBR.out.trans hap2.below); obtain ⟨ao, capo, rfl, hrows⟩ := hI2.rows)
        go_ret
        have hI3 := hI2
        rw [show (dn ++ [cur]).length = dn.length + 1 by simp] at hI3
        rw [FC.some HF0.out (HN.out.trans hkn.symm) hne]
        exact ⟨⟨_, rfl, ⟨_, _, _, hI3⟩, (HG0.out.push hne).last' hk⟩, HB2.out⟩

end Go.Proofs.YtjpchjbpolcndaaDoor

namespace Go.Proofs.YtjpchjbpolcndaaDoor

theorem bits_of : ∀ bs : List Bool, ∃ n, n < 2 ^ bs.length ∧ bitsN n bs.length = bs := by
  intro bs
  induction bs with
  | nil => exact ⟨0, by simp, rfl⟩
  | cons b bs ih =>
    obtain ⟨n, h1, h2⟩ := ih
    refine ⟨2 * n + b.toNat, ?_, ?_⟩
    · rw [List.length_cons, Nat.pow_succ]
      have : b.toNat ≤ 1 := by cases b <;> simp
      omega
    · unfold bitsN at h2 ⊢
      rw [List.length_cons, List.range_succ_eq_map, List.map_cons, List.map_map]
      have e0 : (2 * n + b.toNat).testBit 0 = b := by
        rw [Nat.testBit_zero]
        cases b <;> simp <;> omega
      have e1 : (List.range bs.length).map ((2 * n + b.toNat).testBit ∘ Nat.succ) = (List.range bs.length).map n.testBit := by
        refine List.map_congr_left fun i _ => ?_
        show (2 * n + b.toNat).testBit (i + 1) = _
        rw [Nat.testBit_succ]
        congr 1
        cases b <;> simp <;> omega
      rw [e0, e1, h2]
theorem satN_holds {m : List (List Int)} {v n : Nat} (h : satN m v = some n) : n < 2 ^ v ∧ ofL m (false :: bitsN n v) = true := by
  unfold satN at h
  have h1 := List.find?_some h
  have h2 := List.mem_of_find?_eq_some h
  exact ⟨List.mem_range.1 h2, h1⟩
theorem satN_no {m : List (List Int)} {v : Nat} (h : satN m v = none) (bs : List Bool) (hb : bs.length = v) : ofL m (false :: bs) = false := by
  obtain ⟨n, h1, h2⟩ := bits_of bs
  rw [hb] at h1 h2
  unfold satN at h
  rw [List.find?_eq_none] at h
  have := h n (List.mem_range.2 h1)
  rw [h2] at this
  simpa using this
theorem satN_more {m k : List (List Int)} {v : Nat} (h : satN m v = none) : satN (m ++ k) v = none := by
  unfold satN at h ⊢
  rw [List.find?_eq_none] at h ⊢
  intro x hx
  have := h x hx
  unfold ofL at this ⊢
  rw [List.all_append]
  simp at this ⊢
  intro g
  exact absurd g (by simpa using this)
end Go.Proofs.YtjpchjbpolcndaaDoor

namespace Go.Proofs.YtjpchjbpolcndaaDoor
open Go.RowKit

theorem own_geG {w : World} {B : Nat} {e : TypeId} {size : Nat} {v : Value} {n : Nat} {xs : List Value} (h : w.ownsRow B e size v n xs) {g : Nat} (hg : v.ownBlock = some g) : B ≤ g := by
  rcases h.2 with ⟨rfl, _⟩ | ⟨g', cap, cur, rfl, hb, hh, _⟩
  · cases hg
  · simp only [Value.ownBlock] at hg
    injection hg with hg
    subst hg
    exact hb
theorem ClG.join {w w' : World} {B B2 : Nat} {o o' c o2 c2 : Value} {vs vs2 : List Value} {xss yss : List (List Int)} {cur cur2 : List Int} (h : ClG w B o c vs xss cur) (h2 : ClG w B2 o2 c2 vs2 yss cur2) (hB : B ≤ B2) (hs : ∀ g, o.ownBlock = some g → g < B2) (ha : App B w w' o o') (ho : w'.ownsRow B 22 1 o' (xss.length + yss.length) (vs ++ vs2)) :
    ClG w' B o' (.slice none 0 0) (vs ++ vs2) (xss ++ yss) [] := by
  have hsw : ∀ {v : Value} {xs : List Value} {n : Nat}, w.ownsRow B 3 1 v n xs → (∀ g, v.ownBlock = some g → g < w.heap.size ∧ o.ownBlock ≠ some g) → w'.ownsRow B 3 1 v n xs ∧ ∀ g, v.ownBlock = some g → g < w'.heap.size ∧ o'.ownBlock ≠ some g ∧ (Value.slice none 0 0).ownBlock ≠ some g := fun {v} {xs} {n} h1 h2 =>
    ⟨ha.own h1 (by
      cases e : v.ownBlock with
      | none => exact .inl rfl
      | some g => exact .inr fun e' => (h2 g e).2 e'.symm), fun g e => ⟨Nat.lt_of_lt_of_le (h2 g e).1 ha.below.size, ha.ne (h2 g e).1 (h2 g e).2, fun e' => (by cases e')⟩⟩
  refine ⟨by simp [h.len, h2.len], by simpa using ho, ?_, ⟨rfl, .inl ⟨rfl, rfl⟩⟩, fun g _ e => (by cases e)⟩
  intro j hj
  by_cases hlt : j < xss.length
  · obtain ⟨v, k1, k2, k3⟩ := h.each j hlt
    have hg : (xss ++ yss).getD j [] = xss.getD j [] := by simp [List.getD, List.getElem?_append_left hlt]
    refine ⟨v, by rw [List.getElem?_append_left (by rw [h.len]; exact hlt)]; exact k1, ?_⟩
    rw [hg]
    exact hsw k2 (fun g e => ⟨(k3 g e).1, (k3 g e).2.1⟩)
  · have hj2 : j - xss.length < yss.length := by simp at hj; omega
    obtain ⟨v, k1, k2, k3⟩ := h2.each _ hj2
    have hg : (xss ++ yss).getD j [] = yss.getD (j - xss.length) [] := by simp [List.getD, List.getElem?_append_right (Nat.le_of_not_lt hlt)]
    refine ⟨v, by rw [List.getElem?_append_right (by rw [h.len]; omega), h.len]; exact k1, ?_⟩
    rw [hg]
    exact hsw (own_base k2 hB) (fun g e => ⟨(k3 g e).1, fun e' => by have a1 := hs g e'; have a2 : B2 ≤ g := own_geG k2 e; omega⟩)

theorem src_own {w : World} {B : Nat} {e : TypeId} {v : Value} {n : Nat} {xs : List Value} (h : w.ownsRow B e 1 v n xs) : ∃ ao c, v = .slice ao n c ∧ (n = 0 ∨ ∃ ad, ao = some ad ∧ ∀ j u, xs[j]? = some u → w.cell? (ad.add j) = some u) := by
  rcases h.2 with ⟨e0, e1⟩ | ⟨g, cap, cur, e0, _⟩
  · exact ⟨none, 0, by rw [e0, e1], .inl e1⟩
  · subst e0
    exact ⟨_, cap, rfl, .inr ⟨_, rfl, fun j u hj => h.cells (g := g) rfl j u hj⟩⟩
theorem wpList_appR {ops : Array Oper} {rest : List Oper} {o : Oper} {a : Act} {Q : Exit → Act → World → Prop} (hgd : o.guard = none) (s x : Operand)
    (ho : o.op = .call { callee := .builtin .append, args := #[s, x], argTypes := #[24, 24] })
    (w : World) (B B2 : Nat) (u u2 : Value) (xss yss : List (List Int)) (h1 : CRow w B u xss) (h2 : CRow w B2 u2 yss) (hB : B ≤ B2) (hB2 : B2 ≤ w.heap.size) (hsep : ∀ g, u.ownBlock = some g → g < B2) (hl : xss.length + yss.length ≤ 1000)
    (hs : a.eval s = u) (hx : a.eval x = u2)
    (h : ∀ u' w', CRow w' B u' (xss ++ yss) → Below B w w' → wpList Tryd.prog ops Q rest (a.put o.dst u') w') : wpList Tryd.prog ops Q (o :: rest) a w := by
  obtain ⟨c, vs, cur, hI⟩ := h1
  obtain ⟨c2, vs2, cur2, hJ⟩ := h2
  obtain ⟨ao, cc, e, hsrc⟩ := src_own hJ.out
  refine wpList_appC 24 22 (.slice none 0 0) 1 24 Tryd.underlying24 infoInts rfl (by decide) (by decide) hgd s x ho w B u xss.length vs ao yss.length cc vs2 hI.out (by omega) (by omega) (by rw [hJ.len]; omega) hsrc ?_ hs (hx.trans e) ?_
  · intro v hv
    obtain ⟨j, hj, rfl⟩ := List.getElem_of_mem hv
    obtain ⟨v', k1, k2, _⟩ := hJ.each j (by rw [← hJ.len]; exact hj)
    rw [List.getElem?_eq_getElem hj] at k1
    rw [Option.some.inj k1]
    obtain ⟨al, cl', e, _, _⟩ := own_shape k2
    rw [e]
    rfl
  · intro u' w' k1 k2
    exact h u' w' ⟨_, _, _, hI.join hJ hB hsep k2 k1⟩ k2.below
end Go.Proofs.YtjpchjbpolcndaaDoor

namespace Go.Proofs.YtjpchjbpolcndaaDoor
open Go.RowKit

theorem CnS.make2 {W : World} {ac : Option Addr} {cc : Nat} {xss : List (List Int)} {m n : Nat} (rc : RowsAt W ac cc xss) (hm : m ≤ 9) (hn : n ≤ 1000) (hg : ∀ c ∈ xss, ∀ l ∈ c, l ≠ 0 ∧ isF l (m : Int) = true) (h1 : (xss.map List.length).sum ≤ n) (h2 : xss.length ≤ n) : CnS W m ac cc xss := by
  have hl : ∀ xs ∈ xss, ∀ l ∈ xs, l ≠ 0 ∧ l ≤ (m : Int) ∧ -(m : Int) ≤ l := fun xs hx l hl => by
    have h := (hg xs hx l hl).2
    unfold isF at h
    simp at h
    exact ⟨h.1, h.2.1, h.2.2⟩
  refine ⟨rc, fun xs hx l hl' => ?_, fun xs hx => ?_, by omega, fun xs hx l hl' => ?_, ?_, hm⟩
  · have := hl xs hx l hl'; omega
  · have := len_sumL xss xs hx; omega
  · have := hl xs hx l hl'
    have ha : 1 ≤ absI l ∧ absI l ≤ (m : Int) := by unfold absI; split <;> omega
    unfold isB
    rw [decide_eq_true ha.1, decide_eq_true ha.2]
    rfl
  · unfold tooMuch
    rw [sumTo_sum]
    omega

set_option maxHeartbeats 1000000 in
theorem makeCnF (a : Option Addr) (c : Nat) (cs : List Int) (w : World) (hv : RowAt w a c cs) (hcs : ∀ y ∈ cs, -9223372036854775808 ≤ y ∧ y ≤ 9223372036854775807) (hn : cs.length ≤ 200) :
    Calls Tryd.prog 16 #[.slice a cs.length c, .int .i64 9] w fun e w' => (∃ ac cc, e = .returned (.agg #[.int .i64 9, .slice ac (clsOf 9 cs).length cc]) ∧ CnS w' 9 ac cc (clsOf 9 cs)) ∧ Below w.heap.size w w' := by
  have HM := Lib.hid (fun W (hW : Below w.heap.size w W) => makeClF_any a c cs 9 W (by omega) (by omega) (hv.keep hW) hcs hn)
  have HB := Lib.hid (fun o => show Below w.heap.size w (w.alloc o) from (Below.refl _ w).alloc (Nat.le_refl _) _)
  unfold MakePostF at HM
  have HMK := Lib.hid (fun W ac cc (hr : RowsAt W ac cc (clsOf 9 cs)) (h1 : ∀ c ∈ clsOf 9 cs, ∀ l ∈ c, l ≠ 0 ∧ isF l 9 = true) (h2 : ((clsOf 9 cs).map List.length).sum ≤ cs.length) (h3 : (clsOf 9 cs).length ≤ cs.length) => CnS.make2 (m := 9) hr (by omega) (by omega) h1 h2 h3)
  clear hv hcs
  generalize cs.length = n at *
  generalize clsOf 9 cs = xss at *
  go_enter Tryd.func16, Tryd.ntmps16
  go_wp2_with (go_at_call 24; refine (HM.out _ (HB.out _)).mono ?_; rintro e w2 ⟨⟨v, rfl, hC, h1, h2, h3⟩, hb2⟩; obtain ⟨hc, hf⟩ := bcell hb2; obtain ⟨a9, c9, rfl, _⟩ := hC.rows)
  have hbw := (HB.out _).trans (hb2.mono (by simp))
  have hC2 := ((hC.set w.heap.size 0 (.int .i64 9) (by simp)).set w.heap.size 1 (.slice a9 xss.length c9) (by simp))
  obtain ⟨a8, c8, e8, hr8⟩ := hC2.rows
  injection e8 with e1 _ e3
  subst e1; subst e3
  exact bodyPost_ret (v := .agg #[.int .i64 9, .slice a9 xss.length c9]) (by simp [results, Tryd.results16, go_sem, hc]) rfl ⟨⟨a9, c9, rfl, HMK.out _ _ _ hr8 h1 h2 h3⟩, (hbw.setCell (Nat.le_refl _) _).setCell (Nat.le_refl _) _⟩
end Go.Proofs.YtjpchjbpolcndaaDoor

namespace Go.Proofs.YtjpchjbpolcndaaDoor
open Go.RowKit

set_option maxRecDepth 8000 in
set_option maxHeartbeats 4000000 in
theorem lawSats_any (A : Nat → Addr) (a : Option Addr) (c : Nat) (ls : List Int) (a' : Option Addr) (c' : Nat) (ms : List Int) (z : Int) (w : World) (hS : Sents2 w A) (hv : RowAt w a c ls) (hls : ∀ y ∈ ls, -9223372036854775808 ≤ y ∧ y ≤ 9223372036854775807) (hu : RowAt w a' c' ms) (hms : ∀ y ∈ ms, -9223372036854775808 ≤ y ∧ y ≤ 9223372036854775807) :
    Calls Tryd.prog 6 #[.slice a ls.length c, .slice a' ms.length c', .int .i64 z] w fun e w' => e = .returned (.bool true) ∧ Below w.heap.size w w' := by
  have HF := Lib.hid (fun W => first7_any W)
  by_cases h1 : 60 < ls.length
  · have d1 : decide ((60 : Int) < (ls.length : Int)) = true := decide_eq_true (by omega)
    have d1' : decide (60 < ls.length) = true := decide_eq_true h1
    clear hv hls hS hu hms
    generalize ls.length = n1 at *
    generalize ms.length = n2 at *
    go_enter Tryd.func6, Tryd.ntmps6
    go_wp2_with (go_at_call 10; refine (HF.out _).mono ?_; rintro e w1 ⟨rfl, hb1⟩)
    go_ret
    exact ⟨rfl, hb1⟩
  have d1 : decide ((60 : Int) < (ls.length : Int)) = false := decide_eq_false (by omega)
  have d1' : decide (60 < ls.length) = false := decide_eq_false h1
  by_cases h2 : 20 < ms.length
  · have d2 : decide ((20 : Int) < (ms.length : Int)) = true := decide_eq_true (by omega)
    have d2' : decide (20 < ms.length) = true := decide_eq_true h2
    clear hv hls hS hu hms
    generalize ls.length = n1 at *
    generalize ms.length = n2 at *
    go_enter Tryd.func6, Tryd.ntmps6
    go_wp2_with (go_at_call 10; refine (HF.out _).mono ?_; rintro e w1 ⟨rfl, hb1⟩)
    go_ret
    exact ⟨rfl, hb1⟩
  have d2 : decide ((20 : Int) < (ms.length : Int)) = false := decide_eq_false (by omega)
  have d2' : decide (20 < ms.length) = false := decide_eq_false h2
  have HC1 := Lib.hid (fun W (hW : Below w.heap.size w W) => makeCnF a c ls W (hv.keep hW) hls (by omega))
  have HL1 := Lib.hid (fun W (hW : Below w.heap.size w W) => makeClF_any a c ls 9 W (by omega) (by omega) (hv.keep hW) hls (by omega))
  have HL2 := Lib.hid (fun W (hW : Below w.heap.size w W) => makeClF_any a' c' ms 9 W (by omega) (by omega) (hu.keep hW) hms (by omega))
  unfold MakePostF at HL1 HL2
  have HS2 := Lib.hid (fun W (hW : Below w.heap.size w W) => hS.keep hW)
  have HVS := Lib.hid (fun W => values_any z 9 W (by omega))
  have HN0 : Hid (∀ W, Calls Tryd.prog 26 #[.int .i64 0, .int .i64 1] W fun e w' => e = .returned (.int .i64 0) ∧ W = w') := fun W => number_any 0 1 W (by omega) (by omega) (by omega) (by omega)
  have hne1 : ls.length ≤ 60 := by omega
  have hne2 : ms.length ≤ 20 := by omega
  clear hv hls hS hu hms
  have HV9 := Lib.hid (valsI_len z 9)
  have HSO : Hid (∀ k, satN (clsOf 9 ls) 9 = some k → (false :: bitsN k 9).length = 10 ∧ ofL (clsOf 9 ls) (false :: bitsN k 9) = true) := fun k h => ⟨by simp [bitsN_len], (satN_holds h).2⟩
  have HSN : Hid (satN (clsOf 9 ls) 9 = none → satN (clsOf 9 ls ++ clsOf 9 ms) 9 = none ∧ ofL (clsOf 9 ls) (false :: valsI z 9) = false) := fun h => ⟨satN_more h, satN_no h _ HV9.out⟩
  have HMK := Lib.hid (fun W ac cc (hr : RowsAt W ac cc (clsOf 9 ls ++ clsOf 9 ms)) (g1 : ∀ c ∈ clsOf 9 ls, ∀ l ∈ c, l ≠ 0 ∧ isF l 9 = true) (g2 : ((clsOf 9 ls).map List.length).sum ≤ ls.length) (g3 : (clsOf 9 ls).length ≤ ls.length) (k1 : ∀ c ∈ clsOf 9 ms, ∀ l ∈ c, l ≠ 0 ∧ isF l 9 = true) (k2 : ((clsOf 9 ms).map List.length).sum ≤ ms.length) (k3 : (clsOf 9 ms).length ≤ ms.length) => CnS.make2 (m := 9) (n := 80) hr (by omega) (by omega) (fun c hc => (List.mem_append.1 hc).elim (g1 c) (k1 c)) (by rw [List.map_append, List.sum_append]; omega) (by rw [List.length_append]; omega))
  generalize clsOf 9 ls = xss at *
  generalize clsOf 9 ms = yss at *
  generalize ls.length = n1 at *
  generalize ms.length = n2 at *
  go_enter Tryd.func6, Tryd.ntmps6
  go_wp2_with (go_at_call 10; refine (HF.out _).mono ?_; rintro e w1 ⟨rfl, hb1⟩)
  refine (HC1.out w1 hb1).mono ?_
  rintro e w2 ⟨⟨ac, cc, rfl, hcn⟩, hw2⟩
  have hb2 := hb1.trans (hw2.mono hb1.size)
  have HCC : Hid (∀ W, Below (w2.alloc (.cells #[.int .i64 9, .slice ac xss.length cc] 30)).heap.size (w2.alloc (.cells #[.int .i64 9, .slice ac xss.length cc] 30)) W → (W.cell? ⟨w2.heap.size, 0, none⟩ = some (.int .i64 9) ∧ W.cell? ⟨w2.heap.size, 1, none⟩ = some (.slice ac xss.length cc)) ∧ Below w2.heap.size w2 W ∧ Below w.heap.size w W) := fun W h => by
    have h3 : Below w2.heap.size w2 W := ((Below.refl _ w2).alloc (Nat.le_refl _) _).trans (h.mono (by simp))
    exact ⟨cells2 w2 W _ _ 30 h, h3, hb2.trans (h3.mono hb2.size)⟩
  have HCN := Lib.hid (fun W hW => hcn.keep (HCC.out W hW).2.1)
  have hc3 := Below.refl (w2.alloc (.cells #[.int .i64 9, .slice ac xss.length cc] 30)).heap.size (w2.alloc (.cells #[.int .i64 9, .slice ac xss.length cc] 30))
  clear hcn hw2 hb1 HC1 HF
  go_wp2_with fail
  refine (HL1.out _ (HCC.out _ hc3).2.2).mono ?_
  rintro e w3 ⟨⟨v3, rfl, g0, g1, g2, g3⟩, hw3⟩
  have hc4 := hc3.trans (hw3.mono hc3.size)
  have HG1 := Lib.hid (And.intro g1 (And.intro g2 g3))
  have HG0 := Lib.hid g0
  have HSEP : Hid (∀ g, v3.ownBlock = some g → g < w3.heap.size) := fun g hg => by
    obtain ⟨_, _, _, hI⟩ := HG0.out
    exact own_ltG hI.out hg
  obtain ⟨a3, c3, rfl, _⟩ := g0.rows
  clear g0 g1 g2 g3
  go_wp2_with fail
  refine (HL2.out _ (HCC.out _ hc4).2.2).mono ?_
  rintro e w4 ⟨⟨v4, rfl, k0, k1, k2, k3⟩, hw4⟩
  have hc5 := hc4.trans (hw4.mono hc4.size)
  have HK1 := Lib.hid (And.intro k1 (And.intro k2 k3))
  have HK0 := Lib.hid k0
  have HG4 := Lib.hid (HG0.out.keep hw4)
  have hsz : (w2.alloc (.cells #[.int .i64 9, .slice ac xss.length cc] 30)).heap.size ≤ w3.heap.size := hc4.size
  have hsz4 := hw4.size
  have hlen : xss.length + yss.length ≤ 1000 := by have := HG1.out.2.2; have := k3; omega
  obtain ⟨a4, c4, rfl, _⟩ := k0.rows
  clear k0 k1 k2 k3 hw4 hw3 HG0
  go_wp2_with (at_builtin; refine wpList_appR rfl _ _ rfl w4 _ _ _ _ xss yss HG4.out HK0.out hsz hsz4 HSEP.out hlen rfl rfl ?_; intro u5 w5 hu5 hw5; obtain ⟨a5, c5, rfl, hr5⟩ := hu5.rows; have hc6 := hc5.trans (hw5.mono (Nat.le_refl _)); have zz := fun o => (HCC.out _ (hc6.alloc hc6.size o)).1; have z0 := fun o => (zz o).1; have z1 := fun o => (zz o).2; clear zz; have HR5 := Lib.hid (HMK.out _ _ _ hr5 HG1.out.1 HG1.out.2.1 HG1.out.2.2 HK1.out.1 HK1.out.2.1 HK1.out.2.2))
  have hb6 := Below.refl (w5.alloc (.cells #[.int .i64 9, .slice a5 (xss.length + yss.length) c5] 30)).heap.size (w5.alloc (.cells #[.int .i64 9, .slice a5 (xss.length + yss.length) c5] 30))
  have HDD : Hid (∀ W, Below (w5.alloc (.cells #[.int .i64 9, .slice a5 (xss.length + yss.length) c5] 30)).heap.size (w5.alloc (.cells #[.int .i64 9, .slice a5 (xss.length + yss.length) c5] 30)) W → (W.cell? ⟨w5.heap.size, 0, none⟩ = some (.int .i64 9) ∧ W.cell? ⟨w5.heap.size, 1, none⟩ = some (.slice a5 (xss.length + yss.length) c5)) ∧ Below w5.heap.size w5 W ∧ Below (w2.alloc (.cells #[.int .i64 9, .slice ac xss.length cc] 30)).heap.size (w2.alloc (.cells #[.int .i64 9, .slice ac xss.length cc] 30)) W) := fun W h => by
    have h5 : Below w5.heap.size w5 W := ((Below.refl _ w5).alloc (Nat.le_refl _) _).trans (h.mono (by simp))
    exact ⟨cells2 w5 W _ _ 30 h, h5, hc6.trans (h5.mono hc6.size)⟩
  have HST : Hid (∀ W, Below (w5.alloc (.cells #[.int .i64 9, .slice a5 (xss.length + yss.length) c5] 30)).heap.size (w5.alloc (.cells #[.int .i64 9, .slice a5 (xss.length + yss.length) c5] 30)) W → Calls Tryd.prog 17 #[.agg #[.int .i64 9, .slice ac xss.length cc]] W fun e w' => (∃ u, e = .returned (.tuple #[u, .bool (satN xss 9).isSome, .nilIface]) ∧ BoolRow w' u (satL xss 9)) ∧ Below W.heap.size W w') := fun W h => cnS_sat (m := 9) (HS2.out W (HCC.out W (HDD.out W h).2.2).2.2) (HCN.out W (HDD.out W h).2.2)
  have HSD : Hid (∀ W, Below (w5.alloc (.cells #[.int .i64 9, .slice a5 (xss.length + yss.length) c5] 30)).heap.size (w5.alloc (.cells #[.int .i64 9, .slice a5 (xss.length + yss.length) c5] 30)) W → Calls Tryd.prog 17 #[.agg #[.int .i64 9, .slice a5 (xss.length + yss.length) c5]] W fun e w' => (∃ u, e = .returned (.tuple #[u, .bool (satN (xss ++ yss) 9).isSome, .nilIface]) ∧ BoolRow w' u (satL (xss ++ yss) 9)) ∧ Below W.heap.size W w') := fun W h => by
    have := cnS_sat (m := 9) (HS2.out W (HCC.out W (HDD.out W h).2.2).2.2) (HR5.out.keep (HDD.out W h).2.1)
    rw [List.length_append] at this
    exact this
  have HOF : Hid (∀ W u bs, Below (w5.alloc (.cells #[.int .i64 9, .slice a5 (xss.length + yss.length) c5] 30)).heap.size (w5.alloc (.cells #[.int .i64 9, .slice a5 (xss.length + yss.length) c5] 30)) W → BoolRow W u bs → Calls Tryd.prog 25 #[.slice ac xss.length cc, u] W fun e w' => e = .returned (.bool (ofL xss bs)) ∧ W = w') := fun W u bs h hu => refOf_any ac cc xss u bs W (HCN.out W (HDD.out W h).2.2).rc hu (inW_plc (by omega) (all_plc (HCN.out W (HDD.out W h).2.2).good))
  have hcs : ((satN xss 9).isSome = true ∧ (satL xss 9).length = 10 ∧ ofL xss (satL xss 9) = true) ∨ ((satN xss 9).isSome = false ∧ (satL xss 9).length = 0 ∧ (satN (xss ++ yss) 9).isSome = false ∧ ofL xss (false :: valsI z 9) = false) := by
    unfold satL
    cases h : satN xss 9 with
    | some k => exact .inl ⟨rfl, HSO.out k h⟩
    | none => exact .inr ⟨rfl, rfl, by rw [(HSN.out h).1]; rfl, (HSN.out h).2⟩
  have HK9 : Hid (((valsI z 9).map Value.bool).length = 9 * 1) := by unfold Hid; rw [List.length_map, HV9.out]
  have HK8 : Hid (∀ u ∈ (valsI z 9).map Value.bool, u.oneCell' = true) := fun u hu => by
    obtain ⟨x, _, rfl⟩ := List.mem_map.1 hu
    rfl
  have HOL := Lib.hid (fun W u h hu => HOF.out W u (satL xss 9) h hu)
  have HOZ := Lib.hid (fun W u h hu => HOF.out W u (false :: valsI z 9) h hu)
  clear HOF HSO HSN HMK HR5 HG1 HK1 HCN HS2 HL1 HL2 hw5 hu5 hr5 hc3 hc4 hc5 hc6 HG4 HK0 HSEP HV9 hsz hsz4 hlen
  generalize satL xss 9 = L at *
  generalize ofL xss L = bL at *
  generalize ofL xss (false :: valsI z 9) = bz at *
  generalize (satN (xss ++ yss) 9).isSome = r2 at *
  generalize (satN xss 9).isSome = r1 at *
  generalize valsI z 9 = vz at *
  have HKV : Hid (∀ (W : World) B v, W.ownsRow B 4 1 v (1 + 9) ([.bool false] ++ vz.map Value.bool) → W.ownsRow B 4 1 v (1 + 9) ((false :: vz).map Value.bool)) := fun W B v h => by simpa using h
  rcases hcs with ⟨e1, hL, e3⟩ | ⟨e1, hL, e3, e4⟩
  · subst e1
    subst e3
    cases r2
    all_goals
      refine (HST.out _ hb6).mono ?_
      rintro e w7 ⟨⟨u1, rfl, hu1⟩, hw7⟩
      have hb7 := hb6.trans (hw7.mono hb6.size)
      have HU1 := Lib.hid hu1
      obtain ⟨au, cu, e1, _⟩ := hu1
      rw [hL] at e1
      subst e1
      obtain ⟨⟨x0, x1⟩, _⟩ := HDD.out _ hb7
      go_wp2_with fail
      refine (HSD.out _ hb7).mono ?_
      rintro e w8 ⟨⟨u2, rfl, _⟩, hw8⟩
      have hb8 := hb7.trans (hw8.mono hb7.size)
      have HU2 := Lib.hid (HU1.out.keep hw8)
      clear x0 x1 HU1 hw7
      go_wp2_with fail
      refine (HVS.out _).mono ?_
      rintro e w9 ⟨⟨kv, rfl, hkv⟩, hw9⟩
      have HLT : Hid (w9.ownsRow w8.heap.size 4 1 (.slice (some ⟨w8.heap.size, 0, none⟩) 1 1) 1 [.bool false]) := own_keep (own_lit w8 w8.heap.size 4 [.bool false] (Nat.le_refl _) (by simp)) hw9
      have hw89 : Below w8.heap.size w8 w9 := ((Below.refl _ w8).alloc (Nat.le_refl _) _).trans (hw9.mono (by simp))
      obtain ⟨ak, ck, e2, hks⟩ := src_own hkv
      subst e2
      have HKS := Lib.hid hks
      clear hks hkv hw9 hw8
      go_wp2_with (at_builtin; refine wpList_appC 38 4 (.bool false) 1 1 Tryd.underlying38 infoBo rfl (by decide) (by decide) rfl _ _ rfl w9 w8.heap.size _ 1 _ ak 9 ck _ HLT.out hw89.size (by omega) HK9.out HKS.out HK8.out rfl rfl ?_; intro v10 w10 hown hap; have hw10 := hw89.trans hap.below; have hb10 := hb8.trans (hw10.mono hb8.size); obtain ⟨⟨y0, y1⟩, _, hbw10⟩ := HCC.out _ (HDD.out _ hb10).2.2; have HU3 := Lib.hid (HU2.out.keep hw10); have HVV : Hid (BoolRow w10 v10 (false :: vz)) := own_rowG (HKV.out _ _ _ hown))
      go_wp2_with (first | (go_at_call 25; refine (HOL.out _ _ hb10 HU3.out).mono ?_; rintro e w11 ⟨rfl, rfl⟩) | (go_at_call 26; refine (HN0.out _).mono ?_; rintro e w12 ⟨rfl, rfl⟩))
      go_ret
      exact ⟨rfl, hbw10⟩

  · subst e1
    subst e3
    subst e4
    refine (HST.out _ hb6).mono ?_
    rintro e w7 ⟨⟨u1, rfl, hu1⟩, hw7⟩
    have hb7 := hb6.trans (hw7.mono hb6.size)
    have HU1 := Lib.hid hu1
    obtain ⟨au, cu, e1, _⟩ := hu1
    rw [hL] at e1
    subst e1
    obtain ⟨⟨x0, x1⟩, _⟩ := HDD.out _ hb7
    go_wp2_with fail
    refine (HSD.out _ hb7).mono ?_
    rintro e w8 ⟨⟨u2, rfl, _⟩, hw8⟩
    have hb8 := hb7.trans (hw8.mono hb7.size)
    have HU2 := Lib.hid (HU1.out.keep hw8)
    clear x0 x1 HU1 hw7
    go_wp2_with fail
    refine (HVS.out _).mono ?_
    rintro e w9 ⟨⟨kv, rfl, hkv⟩, hw9⟩
    have HLT : Hid (w9.ownsRow w8.heap.size 4 1 (.slice (some ⟨w8.heap.size, 0, none⟩) 1 1) 1 [.bool false]) := own_keep (own_lit w8 w8.heap.size 4 [.bool false] (Nat.le_refl _) (by simp)) hw9
    have hw89 : Below w8.heap.size w8 w9 := ((Below.refl _ w8).alloc (Nat.le_refl _) _).trans (hw9.mono (by simp))
    obtain ⟨ak, ck, e2, hks⟩ := src_own hkv
    subst e2
    have HKS := Lib.hid hks
    clear hks hkv hw9 hw8
    go_wp2_with (at_builtin; refine wpList_appC 38 4 (.bool false) 1 1 Tryd.underlying38 infoBo rfl (by decide) (by decide) rfl _ _ rfl w9 w8.heap.size _ 1 _ ak 9 ck _ HLT.out hw89.size (by omega) HK9.out HKS.out HK8.out rfl rfl ?_; intro v10 w10 hown hap; have hw10 := hw89.trans hap.below; have hb10 := hb8.trans (hw10.mono hb8.size); obtain ⟨⟨y0, y1⟩, _, hbw10⟩ := HCC.out _ (HDD.out _ hb10).2.2; have HU3 := Lib.hid (HU2.out.keep hw10); have HVV : Hid (BoolRow w10 v10 (false :: vz)) := own_rowG (HKV.out _ _ _ hown))
    go_wp2_with (first | (go_at_call 25; refine (HOZ.out _ _ hb10 HVV.out).mono ?_; rintro e w11 ⟨rfl, rfl⟩) | (go_at_call 26; refine (HN0.out _).mono ?_; rintro e w12 ⟨rfl, rfl⟩))
    go_ret
    exact ⟨rfl, hbw10⟩
end Go.Proofs.YtjpchjbpolcndaaDoor
