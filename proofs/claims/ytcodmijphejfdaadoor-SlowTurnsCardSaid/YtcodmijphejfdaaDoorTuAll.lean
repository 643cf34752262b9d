/- From the way in which an argument is handed over (a row of ints in memory) to 'RowAt'. No conditions beyond those typed. · From the way in which an argument is handed over (a row of ints, a slice of such rows) to 'RowAt', 'RowsAt', with the rows' bounds and the reach. No conditions beyond those typed. · The two errors that package slow reads, as they lie. Conditions: those of the card. · The contract of slow.Value: who wins by going through all. Conditions: the game reads as lists of 64-bit ints; the two errors lie as 'Sents2' says. · The contract of lits.Check: which fault it tells. Conditions: the clauses read as lists of 64-bit ints, short ones; the package's errors lie as 'Sents2' says. · The contract of slow.Sat at right clauses: the first model by going through all, or none; the error where there are too many variables. Conditions: the clauses read as right literals; the two errors lie as 'Sents2' says. · What holds of the first model: it makes all true; there is none where there is none; more clauses have no more. Plain. · A clause's literals each as a clause, turned: the value with the quantifiers exchanged is the opposite; who wins with some values has won. Plain facts; no conditions beyond those typed. · The contract of slow.Wins where the game is right and small and there are as many values as places: whether these win. Conditions: the game reads as lists of 64-bit ints, the values as bools. · The contract of slow.Value where the game is right and small: the value by going through all. Conditions: the game reads as lists of 64-bit ints. · SlowTurns: what slow.Value and slow.Wins answer for six variables parted at F. Conditions: the clauses' literals lie in -6 .. 6 and aren't 0; at most 8 clauses of at most 8 literals. · Contracts of skolemlaw7.first and skolemsee.Is. Conditions: those typed. · The law SlowTurns: true for whatever arguments. Conditions: the slice reads as 64-bit ints. -/
import Derived.Test.YtcodmijphejfdaaDoorBase
import Derived.OpenShut
import Derived.Test.YtcodmijphejfdaaDoorCheckP
import Derived.Test.YtcodmijphejfdaaDoorRows
import Derived.Deep.Matrix
import Derived.SizedLaws
import Derived.Lib.SmallJoins
import Derived.Test.YtcodmijphejfdaaDoorSents
import Derived.Test.YtcodmijphejfdaaDoorModel
import Derived.Test.YtcodmijphejfdaaDoorMatP
import Derived.Test.YtcodmijphejfdaaDoorCheck
import Derived.Test.YtcodmijphejfdaaDoorTold
import Derived.Test.YtcodmijphejfdaaDoorSmall
import Derived.Test.YtcodmijphejfdaaDoorNormS
import Derived.Deep.RegionHeld3
import Derived.Deep.DeepCutAuto
import Derived.Deep.CutBlock
import Derived.Test.YtcodmijphejfdaaDoorTuW
import Derived.Test.YtcodmijphejfdaaDoorFault
import Derived.Test.YtcodmijphejfdaaDoorClIG
import Derived.Test.YtcodmijphejfdaaDoorBrow
namespace Go.Proofs.YtcodmijphejfdaaDoor
open Go.RowKit

theorem rowOf {w : World} {a : Option Addr} {len cap : Nat} {zs : List Int}
    (h : (a = none ∧ len = 0 ∧ cap = 0 ∧ zs = []) ∨ ∃ x, a = some x ∧ len ≤ cap ∧ cap ≤ maxLen ∧ zs.length = cap ∧ (∀ i, i < zs.length → w.cell? (x.add i) = some (.int .i64 (zs.getD i 0))) ∧ ∀ n ∈ zs, (Lit.int .i64 n).wf = true) :
    ∃ xs : List Int, xs.length = len ∧ RowAt w a cap xs ∧ ∀ y ∈ xs, -9223372036854775808 ≤ y ∧ y ≤ 9223372036854775807 := by
  rcases h with ⟨rfl, rfl, rfl, rfl⟩ | ⟨x, rfl, hl, hm, hz, hc, hw⟩
  · exact ⟨[], rfl, ⟨by simp, by unfold maxLen; omega, .inl rfl⟩, by simp⟩
  · refine ⟨zs.take len, by simp; omega, ⟨by simp; omega, hm, ?_⟩, fun y hy => bounds_i64 (hw y (List.mem_of_mem_take hy))⟩
    by_cases h0 : len = 0
    · left; simp [h0]
    · right
      obtain ⟨b, off, spot⟩ := x
      have h1 := hc 0 (by omega)
      have hs : spot = none := by simpa [Addr.add] using World.cell?_spot h1
      subst hs
      refine ⟨b, off, rfl, World.block_lt_of_cell? w _ h1, fun i hi => ?_⟩
      have hi' : i < len := by simp at hi; omega
      have h2 := hc i (by omega)
      have he : (⟨b, off, none⟩ : Addr).add i = ⟨b, off + i, none⟩ := by
        by_cases e : i = 0
        · subst e; rfl
        · simp [Addr.add, e]
      rw [he] at h2
      rw [h2]
      simp [List.getD, hi']
end Go.Proofs.YtcodmijphejfdaaDoor

namespace Go.Proofs.YtcodmijphejfdaaDoor
open Go.RowKit Go.ChangeShapes Go.WideShapes Go.ChangeAt Go.Deep Go.Joins

theorem cellsInt : Tryd.prog.cellsOf 3 = 1 := by kernel_rfl
theorem cellsInts : Tryd.prog.cellsOf 30 = 1 := by kernel_rfl
theorem bytesInt : Tryd.prog.bytesOf 3 = 8 := by kernel_rfl

set_option maxRecDepth 100000 in
theorem open_row {H : Type} {enc : TypeId × Value → H} {W : World} {base : Nat} {v : Value} {d : DataW H} {p : List MemPlace} (hv : Value.okWide Tryd.prog W .any base 30 v) (h : DataW.Trod enc Tryd.prog W 0 (fun _ => true) true 30 v d p) :
    ∃ a cap xs, v = .slice a (List.length xs) cap ∧ RowAt W a cap xs ∧ ∀ y ∈ xs, -9223372036854775808 ≤ y ∧ y ≤ 9223372036854775807 := by
  obtain ⟨a0, len0, cap0, rfl⟩ := okWide_slice Tryd.underlying30 hv
  obtain ⟨fuel, hf⟩ := h
  rcases open_ints Tryd.underlying30 Tryd.underlying3 cellsInt hf with ⟨hcs, _⟩ | ⟨x, l, c, zs, hcs, _, hl, hm, hz, _, hcell, hwz⟩
  · simp [Value.cells] at hcs
    obtain ⟨rfl, rfl, rfl⟩ := hcs
    exact ⟨none, 0, [], rfl, ⟨Nat.le_refl _, by unfold maxLen; omega, .inl rfl⟩, by simp⟩
  · simp [Value.cells] at hcs
    obtain ⟨rfl, rfl, rfl⟩ := hcs
    obtain ⟨xs, hx, hr, hb⟩ := rowOf (.inr ⟨x, rfl, hl, hm, by simpa using hz, hcell, hwz⟩)
    exact ⟨some x, cap0, xs, by rw [hx], hr, hb⟩

theorem weightsAll_mem' {H : Type} {P : Program} {e : TypeId} : ∀ {l : List (DataW H)} {d : DataW H}, d ∈ l → ∀ n ∈ d.weights P e, n ∈ DataW.weightsAll P e l
  | d' :: r, d, hd, n, hn => by
    simp only [DataW.weightsAll, List.mem_append]
    rcases List.mem_cons.1 hd with rfl | h
    · exact Or.inl hn
    · exact Or.inr (weightsAll_mem' h n hn)

theorem open_rows {H : Type} {enc : TypeId × Value → H} {W : World} {n : Nat} {v : Value} {y : DataW H × List MemPlace} (h : DataW.trod enc Tryd.prog W 0 (fun _ => true) true n 23 [v] = some y) :
    ∃ a cap xss, v = .slice a (List.length xss) cap ∧ RowsAt W a cap xss ∧ (∀ xs ∈ xss, ∀ z ∈ xs, -9223372036854775808 ≤ z ∧ z ≤ 9223372036854775807) ∧
      ((∀ m ∈ y.1.weights Tryd.prog 23, m ≤ reachBytes) → ∀ xs ∈ xss, xs.length ≤ 140737488355328) := by
  rcases open_int_rows Tryd.underlying23 Tryd.underlying30 Tryd.underlying3 cellsInts cellsInt h with ⟨hcs, _⟩ | ⟨a, len, cap, Af, L, C, Z, hcs, _, hl, hm, hx, hr⟩
  · simp at hcs
    subst hcs
    exact ⟨none, 0, [], rfl, ⟨Nat.le_refl _, by unfold maxLen; omega, .inl rfl⟩, by simp, by simp⟩
  · simp at hcs
    subst hcs
    have hgt : ∀ i, i < len → (((List.range len).map fun r => (Z r).take (L r)).getD i []) = (Z i).take (L i) := fun i hi => by simp [List.getD, hi]
    refine ⟨some a, cap, (List.range len).map fun r => (Z r).take (L r), by simp, ⟨by simpa using hl, hm, ?_⟩, ?_, ?_⟩
    · rcases Nat.eq_zero_or_pos len with h0 | h0
      · left; simp [h0]
      · right
        obtain ⟨b, off, spot⟩ := a
        have h1 := (hr 0 (by omega)).1
        have hs : spot = none := by simpa [Addr.add] using World.cell?_spot h1
        subst hs
        have he : ∀ (b off i : Nat), (⟨b, off, none⟩ : Addr).add i = ⟨b, off + i, none⟩ := fun b off i => by
          by_cases e : i = 0
          · subst e; rfl
          · simp [Addr.add, e]
        refine ⟨b, off, rfl, World.block_lt_of_cell? W _ h1, fun i hi => ?_⟩
        have hi' : i < len := by simpa using hi
        obtain ⟨c1, c2, c3, c4, c5, c6, c7⟩ := hr i (by omega)
        rw [he] at c1
        refine ⟨_, c1, ?_⟩
        rw [hgt i hi']
        have hlen : ((Z i).take (L i)).length = L i := by simp; omega
        refine ⟨Af i, C i, by rw [hlen], by omega, c3, ?_⟩
        cases ha : Af i with
        | none => left; have := c6 ha; omega
        | some a' =>
          by_cases hz : L i = 0
          · left; omega
          · right
            obtain ⟨_, c8⟩ := c7 a' ha
            obtain ⟨b', off', spot'⟩ := a'
            have h2 := c8 0 (by omega)
            have hs : spot' = none := by simpa [Addr.add] using World.cell?_spot h2
            subst hs
            refine ⟨b', off', rfl, World.block_lt_of_cell? W _ h2, fun j hj => ?_⟩
            have hj' : j < L i := by omega
            have h3 := c8 j (by omega)
            rw [he] at h3
            rw [h3]
            simp [List.getD, hj']
    · intro xs hxs z hz
      obtain ⟨r, hr', rfl⟩ := List.mem_map.1 hxs
      have hrl : r < len := by simpa using hr'
      obtain ⟨_, _, _, _, c5, _⟩ := hr r (by omega)
      exact bounds_i64 (c5 z (List.mem_of_mem_take hz))
    · intro hw xs hxs
      obtain ⟨r, hr', rfl⟩ := List.mem_map.1 hxs
      have hrl : r < len := by simpa using hr'
      obtain ⟨_, c2, _, c4, _, c6, _⟩ := hr r (by omega)
      have hle : ((Z r).take (L r)).length = L r := by simp; omega
      rw [hle]
      cases ha : Af r with
      | none => have := c6 ha; omega
      | some a' =>
        have hmem : (L r + (C r - L r)) * 8 ∈ y.1.weights Tryd.prog 23 := by
          rw [hx]
          simp only [DataW.weights, Tryd.underlying23, List.mem_cons, List.mem_append]
          refine .inr (.inl (weightsAll_mem' (d := intRow .i64 (Af r) (L r) (Z r)) (List.mem_map.2 ⟨r, by simpa using hrl, rfl⟩) _ ?_))
          rw [ha]
          simp [intRow, DataW.weights, Tryd.underlying30, bytesInt, lits]
          left
          omega
        have := hw _ hmem
        have hrb : reachBytes = 140737488351232 := rfl
        omega

/-- The weights of a formula's clauses are among the formula's. -/
theorem cnf_weights {H : Type} {x y : DataW H} {m : Nat} (h : m ∈ y.weights Tryd.prog 23) : m ∈ (DataW.agg [x, y]).weights Tryd.prog 25 := by
  simp only [DataW.weights, Tryd.underlying25]
  simpa [DataW.weightsEach] using Or.inr h
end Go.Proofs.YtcodmijphejfdaaDoor

namespace Go.Proofs.YtcodmijphejfdaaDoor
open Go.RowKit

structure Sents2 (w : World) (A : Nat → Addr) : Prop where
  c1 : w.cell? ⟨2, 0, none⟩ = some (.iface 149 (.pointer (some (A 1))))
  c3 : w.cell? ⟨1, 0, none⟩ = some (.iface 149 (.pointer (some (A 3))))
theorem Sents3.two {w : World} {A : Nat → Addr} (h : Sents3 w A) : Sents2 w A := ⟨h.c1, h.c3⟩
theorem Sents.two {w : World} {A : Nat → Addr} (h : Sents w A) : Sents2 w A := ⟨h.c1, h.c3⟩
theorem Sents2.keep {w w' : World} {A : Nat → Addr} (h : Sents2 w A) (hb : Below w.heap.size w w') : Sents2 w' A := by
  have k : ∀ g v, w.cell? ⟨g, 0, none⟩ = some v → w'.cell? ⟨g, 0, none⟩ = some v := fun g v e => (hb.cell (p := ⟨g, 0, none⟩) (World.block_lt_of_cell? w _ e)).trans e
  exact ⟨k _ _ h.c1, k _ _ h.c3⟩
def sentL2 : List (String × List UInt8) := [("skolem/api.ErrLimit", [109, 111, 114, 101, 32, 116, 104, 97, 110, 32, 109, 97, 121, 32, 98, 101]), ("skolem/api.ErrRange", [97, 32, 110, 117, 109, 98, 101, 114, 32, 111, 117, 116, 32, 111, 102, 32, 105, 116, 115, 32, 114, 97, 110, 103, 101])]
theorem gty2 : ((sentL2.map fun x => (Tryd.prog.globalNamed x.1).bind fun g => (Tryd.prog.globals[g]?).map (·.type)).all fun t => t == some 34) = true := by kernel_rfl
/-- What the row's condition on the two listed variables says. -/
theorem sents2_met {W : World} (h : laidMet Tryd.prog (sentL2.map sentD) W) : ∃ A, Sents2 W A := by
  obtain ⟨ps, hl, hnd, hrows⟩ := h
  obtain ⟨gs, hlen, rfl, hg⟩ := sents_of Tryd.underlying34 rowES Tryd.underlying149 Tryd.underlying166 rfl rfl Tryd.underlying9 (by kernel_rfl) (by kernel_rfl) sentL2 ps hl
    (fun x hx g hg => by
      have := List.all_eq_true.1 gty2 _ (List.mem_map_of_mem hx)
      simpa [hg] using this) hrows
  obtain ⟨g1, a1, _, n1, k1, _⟩ := hg 0 (by decide)
  obtain ⟨g3, a3, _, n3, k3, _⟩ := hg 1 (by decide)
  obtain rfl := Option.some.inj (gs1.symm.trans n1)
  obtain rfl := Option.some.inj (gs3.symm.trans n3)
  exact ⟨fun i => if i = 1 then a1 else a3, by simpa using k1, by simpa using k3⟩
end Go.Proofs.YtcodmijphejfdaaDoor

namespace Go.Proofs.YtcodmijphejfdaaDoor
open Go.RowKit

theorem plc_ren {xs : List Int} {l : Int} (h : okP xs l = true) : renP xs l ≠ 0 ∧ plc (renP xs l) ≤ xs.length := by
  have h1 := of_decide_eq_true h
  have h2 : posOf xs (absI l) = xs.idxOf (absI l) + 1 := by unfold posOf; rw [if_pos h1.1]
  have h3 := List.idxOf_lt_length_of_mem h1.1
  unfold renP
  generalize posOf xs (absI l) = p at *
  by_cases hl : l < 0
  · rw [if_pos hl]
    have h4 := plc_neg (l := -(p : Int)) (by omega)
    omega
  · rw [if_neg hl]
    have h4 := plc_pos (l := (p : Int)) (by omega)
    omega
theorem ren_right {xs : List Int} {xss : List (List Int)} (h : okM xs xss = true) : ∀ c ∈ renM xs xss, ∀ l ∈ c, l ≠ 0 ∧ plc l ≤ xs.length := fun c hc l hl => by
  unfold renM at hc
  obtain ⟨d, hd, rfl⟩ := List.mem_map.1 hc
  obtain ⟨y, hy, rfl⟩ := List.mem_map.1 hl
  unfold okM at h
  rw [List.all_eq_true] at h
  have := h d hd
  rw [List.all_eq_true] at this
  exact plc_ren (this y hy)
theorem inW_plc {m : List (List Int)} {n : Nat} (hn : n ≤ 1000000) (h : ∀ c ∈ m, ∀ l ∈ c, l ≠ 0 ∧ plc l ≤ n) : ∀ c ∈ m, InW c := fun c hc l hl => by
  have h1 := (h c hc l hl).2
  have h2 := plc_absI l
  unfold absI at h2
  split at h2 <;> omega
/-- The table's worth: that of the clauses. -/
theorem win_table {m : List (List Int)} {ds : List Mk} {ex : Bool} {no ni o : Nat} (ho : o < 2 ^ no) (hs : no + ni ≤ 20) (h : ∀ c ∈ m, ∀ l ∈ c, l ≠ 0 ∧ plc l ≤ no + ni) (hd : ∀ x, x ∈ ds ↔ x ∈ restL [] m) : winD ds ex no ni o = winsB m ex (bitsN o no) ni := by
  unfold winD winsB
  congr 1
  funext i
  have h1 : holdD ds (i * 2 ^ no + o) = ofL m (false :: (bitsN o no ++ bitsN i ni)) := by
    unfold holdD
    rw [all_same hd]
    have h2 := rest_hold [] m (i * 2 ^ no + o) (no + ni) (by omega) (fun c hc l hl => by simpa using h c hc l hl)
    rw [h2, List.nil_append, bitsN_join i o no ni ho]
  rw [h1]
theorem win_one {m : List (List Int)} {ds : List Mk} {ex : Bool} {kn : List Bool} {ni : Nat} (hs : ni ≤ 20) (h : ∀ c ∈ m, ∀ l ∈ c, l ≠ 0 ∧ plc l ≤ kn.length + ni) (hd : ∀ x, x ∈ ds ↔ x ∈ restL kn m) : winD ds ex 0 ni 0 = winsB m ex kn ni := by
  unfold winD winsB
  congr 1
  funext i
  have h1 : holdD ds (i * 2 ^ 0 + 0) = ofL m (false :: (kn ++ bitsN i ni)) := by
    unfold holdD
    rw [all_same hd]
    have h2 := rest_hold kn m (i * 2 ^ 0 + 0) ni (by omega) h
    rw [h2]
    simp
  rw [h1]
theorem value_yes {m : List (List Int)} {ex : Bool} {no ni o : Nat} (ho : o < 2 ^ no) (h : winsB m ex (bitsN o no) ni = true) : valueB m ex no ni = ex := by
  unfold valueB
  rw [if_pos (List.any_eq_true.2 ⟨o, List.mem_range.2 ho, h⟩)]
theorem value_no {m : List (List Int)} {ex : Bool} {no ni : Nat} (h : ∀ o, o < 2 ^ no → winsB m ex (bitsN o no) ni = false) : valueB m ex no ni = !ex := by
  unfold valueB
  rw [if_neg (fun hh => by
    obtain ⟨o, ho, h1⟩ := List.any_eq_true.1 hh
    rw [h o (List.mem_range.1 ho)] at h1
    cases h1)]

set_option maxRecDepth 8000 in
set_option maxHeartbeats 2000000 in
theorem value_bad (A : Nat → Addr) (ex : Bool) (vo vi : Value) (ol il : List Int) (a : Option Addr) (c : Nat) (xss : List (List Int)) (w : World) (hS : Sents2 w A) (ho : Row w vo ol) (hi : Row w vi il) (hr : RowsAt w a c xss) (hn : ol.length + il.length ≤ 1000000) (hb : ∀ v ∈ ol ++ il, -9223372036854775808 ≤ v ∧ v ≤ 9223372036854775807)
    (hint : ∀ xs ∈ xss, ∀ l ∈ xs, -9223372036854775807 ≤ l ∧ l ≤ 9223372036854775807) (hlen : ∀ xs ∈ xss, xs.length ≤ 1000000) (hm : xss.length ≤ 1000000) (hok : okM (ol ++ il) xss = false ∨ 20 < ol.length + il.length) :
    Calls Tryd.prog 19 #[.agg #[.bool ex, vo, vi, .slice a xss.length c]] w fun e w' => e = .returned (.tuple #[.bool false, sentV A (if okM (ol ++ il) xss then 1 else 3)]) ∧ Below w.heap.size w w' := by
  have HM := Lib.hid (fun W (hW : Below w.heap.size w W) => matrix_any ex vo vi ol il a c xss W (ho.keep hW) (hi.keep hW) (hr.keep hW) hn hb hint hlen hm)
  have HSK := Lib.hid (fun W (hW : Below w.heap.size w W) => hS.keep hW)
  have HCX : Hid (∀ W, Below (w.alloc (.cells #[.bool ex, vo, vi, .slice a xss.length c] 32)).heap.size (w.alloc (.cells #[.bool ex, vo, vi, .slice a xss.length c] 32)) W → (W.cell? ⟨w.heap.size, 0, none⟩ = some (.bool ex) ∧ W.cell? ⟨w.heap.size, 1, none⟩ = some vo ∧ W.cell? ⟨w.heap.size, 2, none⟩ = some vi ∧ W.cell? ⟨w.heap.size, 3, none⟩ = some (.slice a xss.length c)) ∧ Below w.heap.size w W) := fun W h =>
    ⟨(cells4 w W _ _ _ _ 32 h).1, ((Below.refl _ w).alloc (Nat.le_refl _) _).trans (h.mono (by simp))⟩
  obtain ⟨ao, co, rfl, _⟩ := ho
  obtain ⟨ai, ci, rfl, _⟩ := hi
  clear hr hb hint hlen hS
  have HA := Lib.hid (fun o => show Below w.heap.size w (w.alloc o) from (Below.refl _ w).alloc (Nat.le_refl _) _)
  unfold sentV
  generalize hx : okM (ol ++ il) xss = x at *
  cases x with
  | false =>
    rw [if_neg (by simp)]
    have HC3 : Hid (∀ W, Below w.heap.size w W → W.cell? ⟨1, 0, none⟩ = some (.iface 149 (.pointer (some (A 3))))) := fun W hW => (HSK.out W hW).c3
    generalize A 3 = q3 at *
    clear HSK
    generalize ol.length = no at *
    generalize il.length = ni at *
    generalize xss.length = nx at *
    go_enter Tryd.func19, Tryd.ntmps19
    go_wp2_with (go_at_call 42; refine (HM.out _ (HA.out _)).mono ?_; rintro e w1 ⟨⟨u, rfl, hu, _⟩, hb1⟩; obtain ⟨_, hbw1⟩ := HCX.out _ hb1; obtain rfl := hu rfl; have s3 := HC3.out w1 hbw1)
    have HBW := Lib.hid hbw1
    clear hb1 hbw1
    go_quiet (fail)
    go_wp2_with fail
    go_ret2
    exact ⟨rfl, by first | exact HBW.out | exact HBW.out.drew | exact below_drewN HBW.out _⟩
  | true =>
    have h20 : 20 < ol.length + il.length := hok.resolve_left (by simp)
    rw [if_pos rfl]
    have HC1 : Hid (∀ W, Below w.heap.size w W → W.cell? ⟨2, 0, none⟩ = some (.iface 149 (.pointer (some (A 1))))) := fun W hW => (HSK.out W hW).c1
    generalize A 1 = q1 at *
    clear HSK hok
    generalize ol.length = no at *
    generalize il.length = ni at *
    generalize xss.length = nx at *
    have hd1 : decide ((20 : Int) < (no : Int) + (ni : Int)) = true := decide_eq_true (by omega)
    go_enter Tryd.func19, Tryd.ntmps19
    go_wp2_with (go_at_call 42; refine (HM.out _ (HA.out _)).mono ?_; rintro e w1 ⟨⟨u, rfl, _, hu⟩, hb1⟩; obtain ⟨⟨g0, g1, g2, g3⟩, hbw1⟩ := HCX.out _ hb1; obtain ⟨au, cu, rfl, _⟩ := (hu rfl).rows; have s1 := HC1.out w1 hbw1)
    have HBW := Lib.hid hbw1
    clear hb1 hbw1 hu
    go_quiet (fail)
    go_wp2_with fail
    go_ret2
    exact ⟨rfl, by first | exact HBW.out | exact HBW.out.drew | exact below_drewN HBW.out _⟩
end Go.Proofs.YtcodmijphejfdaaDoor

namespace Go.Proofs.YtcodmijphejfdaaDoor
open Go.RowKit

set_option maxHeartbeats 2000000 in
theorem check2_any (A : Nat → Addr) (vars : Int) (a : Option Addr) (cap : Nat) (xss : List (List Int)) (w : World) (hS : Sents2 w A) (hv1 : -9223372036854775808 ≤ vars) (hv2 : vars ≤ 9223372036854775807) (hr : RowsAt w a cap xss)
    (hint : ∀ xs ∈ xss, ∀ l ∈ xs, -9223372036854775807 ≤ l ∧ l ≤ 9223372036854775807) (hlen : ∀ xs ∈ xss, xs.length < 1000000000) :
    Calls Tryd.prog 45 #[.agg #[.int .i64 vars, .slice a xss.length cap]] w (CheckPost A w vars xss) := by
  obtain ⟨hc1, hc2, hr⟩ := hr
  unfold maxLen at hc2
  have HR := Lib.hid hr; clear hr
  have HI := Lib.hid hint; clear hint
  have HLEN := Lib.hid hlen; clear hlen
  have HS := Lib.hid hS
  have s1 : w.cell? ⟨2, 0, none⟩ = some (.iface 149 (.pointer (some (A 1)))) := hS.c1
  have s3 : w.cell? ⟨1, 0, none⟩ = some (.iface 149 (.pointer (some (A 3)))) := hS.c3
  have z1 : 2 < w.heap.size := World.block_lt_of_cell? w _ s1
  have z3 : 1 < w.heap.size := World.block_lt_of_cell? w _ s3
  clear hS
  have hbw : ∀ o, Below w.heap.size w (w.alloc o) := fun o => (Below.refl _ w).alloc (Nat.le_refl _) _
  have HB := Lib.hid hbw; clear hbw
  have HL : Hid (∀ W, Below w.heap.size w W → tooMuch vars xss → CheckPost A w vars xss (.returned (sentV A 1)) W) := fun W hW ht =>
    ⟨sentV A 1, 102, false, 0, rfl, .inl ⟨ht, rfl, rfl, rfl⟩, errR_sent A W 1 (by omega), fun h => by omega, fun _ => ⟨_, _, rfl⟩, hW⟩
  generalize hN : xss.length = n at *
  have HN := Lib.hid hN; clear hN
  by_cases hvn : vars < 0
  · have HT := Lib.hid (show tooMuch vars xss from .inl hvn)
    go_enter Tryd.func45, Tryd.ntmps45
    go_wp2_with fail
    go_ret
    exact HL.out _ (HB.out _) HT.out
  have hd1 : decide (vars < 0) = false := by simpa using hvn
  by_cases hvp : 4000 < vars
  · have HT := Lib.hid (show tooMuch vars xss from .inr (.inl hvp))
    go_enter Tryd.func45, Tryd.ntmps45
    go_wp2_with fail
    go_ret
    exact HL.out _ (HB.out _) HT.out
  have hd2 : decide (4000 < vars) = false := by simpa using hvp
  by_cases hnp : 20000 < n
  · have HT := Lib.hid (show tooMuch vars xss from .inr (.inr (.inl (by rw [HN.out]; exact hnp))))
    go_enter Tryd.func45, Tryd.ntmps45
    go_wp2_with fail
    go_ret
    exact HL.out _ (HB.out _) HT.out
  have hd3 : decide (20000 < (n : Int)) = false := by simp; omega
  go_enter Tryd.func45, Tryd.ntmps45
  go_wp2_with fail
  go_loop [3, 28] (fun s i => ∃ k : Nat, k ≤ n ∧ i = .int .i64 k ∧ s = .int .i64 (sumTo xss k) ∧ sumTo xss k ≤ 80000) (fun _ i => n - (intOf i).toNat)
  case atStart => exact ⟨0, Nat.zero_le _, rfl, rfl, by simp [sumTo]⟩
  case round =>
    obtain ⟨k, hk, rfl, rfl, hsum⟩ := hrel
    by_cases hlt : k < n
    · obtain ⟨b, off, ha, hb, hc⟩ := HR.out.resolve_left (by omega)
      subst ha
      obtain ⟨v, g1, hv⟩ := hc k hlt
      clear hc
      have hkl : k < xss.length := by rw [HN.out]; exact hlt
      have HSU := Lib.hid (sumTo_succ xss k hkl)
      have hle : (xss.getD k []).length < 1000000000 := HLEN.out _ (by simp [List.getD, hkl])
      have HMO := Lib.hid (sumTo_mono xss (k + 1) xss.length (by omega))
      clear hkl
      obtain ⟨av, cv, rfl, hrv⟩ := hv
      clear hrv
      generalize (xss.getD k []).length = m at *
      by_cases hs : 80000 < sumTo xss k + m
      · have HT := Lib.hid (show tooMuch vars xss from .inr (.inr (.inr (by have := HMO.out; rw [HSU.out] at this; omega))))
        generalize sumTo xss k = sk at *
        go_wp2_with fail
        go_ret
        exact HL.out _ (HB.out _) HT.out
      · generalize hsk : sumTo xss k = sk at *
        go_wp2_with fail
        go_round
        case rel => exact ⟨k + 1, by omega, by go_num, by rw [HSU.out]; go_num, by rw [HSU.out]; omega⟩
        case measure => simp [intOf]; omega
    · have hkn : k = n := by omega
      have HNT := Lib.hid (show ¬ tooMuch vars xss from by
        rintro (h | h | h | h)
        · omega
        · omega
        · rw [HN.out] at h; exact hnp h
        · rw [HN.out, ← hkn] at h; omega)
      clear hlt hsum
      go_wp2_with fail
      clear hkn hk
      go_loop [43] (fun i => ∃ k : Nat, k ≤ n ∧ i = .int .i64 k ∧ Hid (∀ j, j < k → ∀ l ∈ xss.getD j [], isB vars l = true)) (fun i => n - (intOf i).toNat)
      case atStart => exact ⟨0, Nat.zero_le _, rfl, fun j hj => absurd hj (Nat.not_lt_zero _)⟩
      case round =>
        obtain ⟨k, hk, rfl, HQ⟩ := hrel
        by_cases hlt : k < n
        · obtain ⟨b, off, ha, hb, hc⟩ := HR.out.resolve_left (by omega)
          subst ha
          obtain ⟨v, g1, hv⟩ := hc k hlt
          clear hc
          have hkl : k < xss.length := by rw [HN.out]; exact hlt
          have hmem : xss.getD k [] ∈ xss := by simp [List.getD, hkl]
          have hle : (xss.getD k []).length < 1000000000 := HLEN.out _ hmem
          have HIK := Lib.hid (HI.out _ hmem)
          clear hmem
          generalize hys : xss.getD k [] = ys at *
          have HYS := Lib.hid hys; clear hys
          obtain ⟨av, cv, rfl, hrv1, hrv2, hrv⟩ := hv
          have HRV := Lib.hid hrv; clear hrv
          unfold maxLen at hrv2
          generalize hm : ys.length = m at *
          have HM := Lib.hid hm; clear hm
          have HKL := Lib.hid hkl; clear hkl
          go_wp2_with fail
          go_loop [50] (fun i => ∃ j : Nat, j ≤ m ∧ i = .int .i64 j ∧ Hid (∀ i, i < j → isB vars (ys.getD i 0) = true)) (fun i => m - (intOf i).toNat)
          case atStart => exact ⟨0, Nat.zero_le _, rfl, fun j hj => absurd hj (Nat.not_lt_zero _)⟩
          case round =>
            obtain ⟨j, hj, rfl, HP⟩ := hrel
            by_cases hjl : j < m
            · obtain ⟨b2, off2, ha2, hb2, hc2'⟩ := HRV.out.resolve_left (by omega)
              subst ha2
              have g2 : w.cell? ⟨b2, off2 + j, none⟩ = some (.int .i64 (ys.getD j 0)) := hc2' j hjl
              clear hc2'
              have hjy : j < ys.length := by rw [HM.out]; exact hjl
              have hmem2 : ys.getD j 0 ∈ ys := by simp [List.getD, hjy]
              obtain ⟨hl1, hl2⟩ := HIK.out _ hmem2
              have HME := Lib.hid hmem2; clear hmem2 hjy
              generalize hlj : ys.getD j 0 = l at *
              have HLJ := Lib.hid hlj; clear hlj
              have HIS := Lib.hid (fun W => is_any l vars W hl1 hl2)
              obtain ⟨r, hr⟩ : ∃ r, isB vars l = r := ⟨_, rfl⟩
              rw [show (decide (1 ≤ absI l) && decide (absI l ≤ vars)) = r from hr] at HIS
              have HRR := Lib.hid hr; clear hr
              cases r with
              | true =>
                go_wp2_with (go_at_call 63; refine (HIS.out _).mono ?_; rintro e w' ⟨rfl, rfl⟩)
                go_round
                case rel =>
                  refine ⟨j + 1, by omega, by go_num, fun i hi => ?_⟩
                  by_cases e : i = j
                  · rw [e, HLJ.out]; exact HRR.out
                  · exact HP.out i (by omega)
                case measure => simp [intOf]; omega
              | false =>
                have HFB := Lib.hid (show firstBad vars xss k from ⟨HKL.out, HQ.out, l, by rw [HYS.out]; exact HME.out, HRR.out⟩)
                go_wp2_with (go_at_call 63; refine (HIS.out _).mono ?_; rintro e w' ⟨rfl, rfl⟩)
                go_ret
                have hbb : ∀ o, Below w.heap.size w ((w.alloc (.cells #[.int .i64 vars, .slice (some ⟨b, off, none⟩) n cap] 25)).alloc o) := fun o => (HB.out _).alloc (by simp) _
                refine ⟨_, 104, true, k, rfl, .inr (.inl ⟨HNT.out, k, HFB.out, rfl, rfl, rfl⟩), ?_, fun h => by omega, fun _ => ⟨_, _, rfl⟩, hbb _⟩
                refine errR_at 3 (by omega) (w.heap.size + 1) k ?_ ?_
                · rw [World.cell?_alloc_at _ _ _ _ (by simp)]; rfl
                · rw [World.cell?_alloc_at _ _ _ _ (by simp)]; rfl
            · have hjm : j = m := by omega
              have HALL := Lib.hid (show ∀ j', j' < k + 1 → ∀ l ∈ xss.getD j' [], isB vars l = true from by
                intro j' hj' l hl
                by_cases e : j' = k
                · rw [e, HYS.out] at hl
                  obtain ⟨i, hi, rfl⟩ := List.getElem_of_mem hl
                  have := HP.out i (by rw [HM.out] at hi; omega)
                  simpa [List.getD, hi] using this
                · exact HQ.out j' (by omega) l hl)
              clear hjl
              go_wp2_with fail
              go_round
              case rel => exact ⟨k + 1, by omega, by go_num, HALL.out⟩
              case measure => simp [intOf]; omega
        · have hkn : k = n := by omega
          have HALL := Lib.hid (show allIs vars xss from by
            intro xs hxs l hl
            obtain ⟨i, hi, rfl⟩ := List.getElem_of_mem hxs
            exact HQ.out i (by rw [HN.out] at hi; omega) l (by simpa [List.getD, hi] using hl))
          clear hlt
          go_wp2_with fail
          go_ret
          exact ⟨_, 0, false, 0, rfl, .inr (.inr ⟨HNT.out, HALL.out, rfl, rfl, rfl⟩), errR_nil A _, fun _ => rfl, fun h => absurd rfl h, HB.out _⟩
end Go.Proofs.YtcodmijphejfdaaDoor

namespace Go.Proofs.YtcodmijphejfdaaDoor
open Go.RowKit

theorem satN_some {m : List (List Int)} {v n : Nat} (hn : n < 2 ^ v) (hp : ∀ j, j < n → ofL m (false :: bitsN j v) = false) (h : ofL m (false :: bitsN n v) = true) : satN m v = some n := by
  unfold satN
  rw [List.find?_eq_some_iff_getElem]
  refine ⟨h, n, by simpa using hn, by simp, fun j hj => ?_⟩
  simpa using hp j hj
theorem satN_none {m : List (List Int)} {v : Nat} (hp : ∀ j, j < 2 ^ v → ofL m (false :: bitsN j v) = false) : satN m v = none := by
  unfold satN
  rw [List.find?_eq_none]
  intro x hx
  simpa using hp x (List.mem_range.1 hx)
theorem sat_hold {m : List (List Int)} {ds : List Mk} {v n : Nat} (hv : v ≤ 20) (h : ∀ c ∈ m, ∀ l ∈ c, l ≠ 0 ∧ plc l ≤ v) (hd : ∀ x, x ∈ ds ↔ x ∈ restL [] m) : holdD ds n = ofL m (false :: bitsN n v) := by
  unfold holdD
  rw [all_same hd]
  have h2 := rest_hold [] m n v (by omega) (fun c hc l hl => by simpa using h c hc l hl)
  rw [h2, List.nil_append]
theorem all_plc {m : List (List Int)} {v : Nat} (h : allIs (v : Int) m) : ∀ c ∈ m, ∀ l ∈ c, l ≠ 0 ∧ plc l ≤ v := fun c hc l hl => by
  have h1 := h c hc l hl
  unfold isB at h1
  simp only [Bool.and_eq_true, decide_eq_true_eq] at h1
  have h2 := plc_absI l
  refine ⟨fun e => ?_, by omega⟩
  subst e
  simp [absI] at h1

def SatPost (m : List (List Int)) (v : Nat) (w : World) (e : Ending) (w' : World) : Prop :=
  (∃ u, e = .returned (.tuple #[u, .bool (satN m v).isSome, .nilIface]) ∧ (∀ n, satN m v = some n → BoolRow w' u (false :: bitsN n v)) ∧ (satN m v = none → u = .slice none 0 0)) ∧ Below w.heap.size w w'

end Go.Proofs.YtcodmijphejfdaaDoor

namespace Go.Proofs.YtcodmijphejfdaaDoor

theorem bits_of : ∀ bs : List Bool, ∃ n, n < 2 ^ bs.length ∧ bitsN n bs.length = bs := by
  intro bs
  induction bs with
  | nil => exact ⟨0, by simp, rfl⟩
  | cons b bs ih =>
    obtain ⟨n, h1, h2⟩ := ih
    refine ⟨2 * n + b.toNat, ?_, ?_⟩
    · rw [List.length_cons, Nat.pow_succ]
      have : b.toNat ≤ 1 := by cases b <;> simp
      omega
    · unfold bitsN at h2 ⊢
      rw [List.length_cons, List.range_succ_eq_map, List.map_cons, List.map_map]
      have e0 : (2 * n + b.toNat).testBit 0 = b := by
        rw [Nat.testBit_zero]
        cases b <;> simp <;> omega
      have e1 : (List.range bs.length).map ((2 * n + b.toNat).testBit ∘ Nat.succ) = (List.range bs.length).map n.testBit := by
        refine List.map_congr_left fun i _ => ?_
        show (2 * n + b.toNat).testBit (i + 1) = _
        rw [Nat.testBit_succ]
        congr 1
        cases b <;> simp <;> omega
      rw [e0, e1, h2]
theorem satN_holds {m : List (List Int)} {v n : Nat} (h : satN m v = some n) : n < 2 ^ v ∧ ofL m (false :: bitsN n v) = true := by
  unfold satN at h
  have h1 := List.find?_some h
  have h2 := List.mem_of_find?_eq_some h
  exact ⟨List.mem_range.1 h2, h1⟩
theorem satN_no {m : List (List Int)} {v : Nat} (h : satN m v = none) (bs : List Bool) (hb : bs.length = v) : ofL m (false :: bs) = false := by
  obtain ⟨n, h1, h2⟩ := bits_of bs
  rw [hb] at h1 h2
  unfold satN at h
  rw [List.find?_eq_none] at h
  have := h n (List.mem_range.2 h1)
  rw [h2] at this
  simpa using this
theorem satN_more {m k : List (List Int)} {v : Nat} (h : satN m v = none) : satN (m ++ k) v = none := by
  unfold satN at h ⊢
  rw [List.find?_eq_none] at h ⊢
  intro x hx
  have := h x hx
  unfold ofL at this ⊢
  rw [List.all_append]
  simp at this ⊢
  intro g
  exact absurd g (by simpa using this)
end Go.Proofs.YtcodmijphejfdaaDoor

namespace Go.Proofs.YtcodmijphejfdaaDoor

def sqT (u m : Nat) : List Int := (List.range m).map fun j => ((u + j : Nat) : Int) + 1
theorem sqT_len (u m : Nat) : (sqT u m).length = m := by simp [sqT]
theorem sqT_snoc (u m : Nat) : sqT u (m + 1) = sqT u m ++ [((u + m : Nat) : Int) + 1] := by
  unfold sqT
  rw [List.range_succ, List.map_append]
  simp
theorem sqT_six (F : Nat) (h : F ≤ 6) : sqT 0 F ++ sqT F (6 - F) = [1, 2, 3, 4, 5, 6] := by
  have : F = 0 ∨ F = 1 ∨ F = 2 ∨ F = 3 ∨ F = 4 ∨ F = 5 ∨ F = 6 := by omega
  rcases this with rfl | rfl | rfl | rfl | rfl | rfl | rfl <;> rfl
def Lit6 (d : List Int) : Prop := ∀ l ∈ d, l ≠ 0 ∧ -6 ≤ l ∧ l ≤ 6
def flipM (d : List Int) : List (List Int) := d.map fun l => [-l]
theorem ren6 (l : Int) (h : l ≠ 0 ∧ -6 ≤ l ∧ l ≤ 6) : renP [1, 2, 3, 4, 5, 6] l = l ∧ okP [1, 2, 3, 4, 5, 6] l = true := by
  have : l = -6 ∨ l = -5 ∨ l = -4 ∨ l = -3 ∨ l = -2 ∨ l = -1 ∨ l = 1 ∨ l = 2 ∨ l = 3 ∨ l = 4 ∨ l = 5 ∨ l = 6 := by omega
  rcases this with rfl | rfl | rfl | rfl | rfl | rfl | rfl | rfl | rfl | rfl | rfl | rfl <;> exact ⟨rfl, rfl⟩
theorem renM6 (xss : List (List Int)) (h : ∀ c ∈ xss, Lit6 c) : renM [1, 2, 3, 4, 5, 6] xss = xss ∧ okM [1, 2, 3, 4, 5, 6] xss = true := by
  constructor
  · unfold renM
    have : ∀ c ∈ xss, c.map (renP [1, 2, 3, 4, 5, 6]) = id c := fun c hc => by
      have : ∀ l ∈ c, renP [1, 2, 3, 4, 5, 6] l = id l := fun l hl => (ren6 l (h c hc l hl)).1
      rw [List.map_congr_left this, List.map_id]; rfl
    rw [List.map_congr_left this, List.map_id]
  · unfold okM
    rw [List.all_eq_true]
    intro c hc
    rw [List.all_eq_true]
    exact fun l hl => (ren6 l (h c hc l hl)).2
theorem flip6 {d : List Int} (h : Lit6 d) : ∀ c ∈ flipM d, Lit6 c := by
  intro c hc l hl
  unfold flipM at hc
  obtain ⟨x, hx, rfl⟩ := List.mem_map.1 hc
  rw [List.mem_singleton] at hl
  subst hl
  have := h x hx
  omega
theorem holds_neg (bs : List Bool) (l : Int) (hl : l ≠ 0 ∧ -6 ≤ l ∧ l ≤ 6) (hb : bs.length = 7) : holdsL bs (-l) = !holdsL bs l := by
  have hp : plc (-l) = plc l := by unfold plc; simp [absI]; split <;> split <;> omega
  have h1 : 1 ≤ plc l ∧ plc l < bs.length := by unfold plc absI; rw [hb]; split <;> omega
  unfold holdsL
  rw [hp, decide_eq_true h1.1, decide_eq_true h1.2]
  have h2 : decide (0 < -l) = !decide (0 < l) := by
    by_cases h : 0 < l
    · rw [decide_eq_true h, decide_eq_false (by omega)]; rfl
    · rw [decide_eq_false h, decide_eq_true (by omega)]; rfl
  rw [h2]
  cases bs.getD (plc l) false <;> cases decide (0 < l) <;> rfl
theorem ofL_flip (bs : List Bool) (d : List Int) (h : Lit6 d) (hb : bs.length = 7) : ofL (flipM d) bs = !ofL [d] bs := by
  unfold ofL flipM
  rw [List.all_map]
  simp only [List.all_cons, List.all_nil, Bool.and_true]
  unfold ofC
  induction d with
  | nil => rfl
  | cons x d ih =>
    have hx := holds_neg bs x (h x (by simp)) hb
    rw [List.all_cons, ih fun l hl => h l (by simp [hl]), List.any_cons]
    simp only [Function.comp_apply, List.any_cons, List.any_nil, Bool.or_false]
    rw [hx]
    cases holdsL bs x <;> simp
theorem wins_flip (d : List Int) (h : Lit6 d) (ex : Bool) (ov : List Bool) (ni : Nat) (hl : ov.length + ni = 6) : winsB (flipM d) (!ex) ov ni = winsB [d] ex ov ni := by
  unfold winsB
  congr 1
  funext i
  rw [ofL_flip _ d h (by simp [bitsN_len]; omega)]
  cases ofL [d] (false :: (ov ++ bitsN i ni)) <;> cases ex <;> rfl
theorem value_flip (d : List Int) (h : Lit6 d) (ex : Bool) (no ni : Nat) (hl : no + ni = 6) : valueB (flipM d) (!ex) no ni = !valueB [d] ex no ni := by
  unfold valueB
  have : (fun o => winsB (flipM d) (!ex) (bitsN o no) ni) = fun o => winsB [d] ex (bitsN o no) ni := funext fun o => wins_flip d h ex _ ni (by rw [bitsN_len]; exact hl)
  rw [this]
  split
  · rfl
  · rfl
theorem wins_value (m : List (List Int)) (ex : Bool) (kn : List Bool) (ni : Nat) (h : winsB m ex kn ni = true) : valueB m ex kn.length ni = ex := by
  obtain ⟨n, hn, hb⟩ := bits_of kn
  rw [← hb] at h
  exact value_yes hn h
end Go.Proofs.YtcodmijphejfdaaDoor

namespace Go.Proofs.YtcodmijphejfdaaDoor
open Go.RowKit

set_option maxRecDepth 8000 in
set_option maxHeartbeats 2000000 in
theorem wins_ok (ex : Bool) (vo vi : Value) (ol il : List Int) (a : Option Addr) (c : Nat) (xss : List (List Int)) (kv : Value) (kn : List Bool) (w : World) (ho : Row w vo ol) (hi : Row w vi il) (hr : RowsAt w a c xss) (hk : BoolRow w kv kn) (hb : ∀ v ∈ ol ++ il, -9223372036854775808 ≤ v ∧ v ≤ 9223372036854775807)
    (hint : ∀ xs ∈ xss, ∀ l ∈ xs, -9223372036854775807 ≤ l ∧ l ≤ 9223372036854775807) (hlen : ∀ xs ∈ xss, xs.length ≤ 1000000) (hm : xss.length ≤ 1000000) (hok : okM (ol ++ il) xss = true) (hkn : kn.length = ol.length) (hn : ol.length ≤ 900000) (h20 : il.length ≤ 20) :
    Calls Tryd.prog 20 #[.agg #[.bool ex, vo, vi, .slice a xss.length c], kv] w fun e w' => e = .returned (.tuple #[.bool (winsB (renM (ol ++ il) xss) ex kn il.length), .nilIface]) ∧ Below w.heap.size w w' := by
  have HM := Lib.hid (fun W (hW : Below w.heap.size w W) => matrix_any ex vo vi ol il a c xss W (ho.keep hW) (hi.keep hW) (hr.keep hW) (by omega) hb hint hlen hm)
  have HCX : Hid (∀ W, Below (w.alloc (.cells #[.bool ex, vo, vi, .slice a xss.length c] 32)).heap.size (w.alloc (.cells #[.bool ex, vo, vi, .slice a xss.length c] 32)) W → (W.cell? ⟨w.heap.size, 0, none⟩ = some (.bool ex) ∧ W.cell? ⟨w.heap.size, 1, none⟩ = some vo ∧ W.cell? ⟨w.heap.size, 2, none⟩ = some vi ∧ W.cell? ⟨w.heap.size, 3, none⟩ = some (.slice a xss.length c)) ∧ Below w.heap.size w W) := fun W h =>
    ⟨(cells4 w W _ _ _ _ 32 h).1, ((Below.refl _ w).alloc (Nat.le_refl _) _).trans (h.mono (by simp))⟩
  have hright : ∀ c ∈ renM (ol ++ il) xss, ∀ l ∈ c, l ≠ 0 ∧ plc l ≤ ol.length + il.length := fun c hc l hl => by
    have := ren_right hok c hc l hl
    rwa [List.length_append] at this
  have HRI := Lib.hid hright
  have hml : (renM (ol ++ il) xss).length = xss.length := by unfold renM; simp
  have HRS := Lib.hid (fun W au cu (hr : RowsAt W au cu (renM (ol ++ il) xss)) (hkw : BoolRow W kv kn) => rest_any au cu (renM (ol ++ il) xss) kv kn W hr hkw (inW_plc (by omega) hright) (by omega) (fun c hc l hl => by have := (hright c hc l hl).2; omega) (by omega))
  obtain ⟨ao, co, rfl, _⟩ := ho
  obtain ⟨ai, ci, rfl, _⟩ := hi
  have HKW := Lib.hid (fun W (hW : Below w.heap.size w W) => (RowG.keep hk hW : BoolRow W kv kn))
  obtain ⟨ak, ck, rfl, _⟩ := hk
  clear hr hb hint hlen hright
  have HA := Lib.hid (fun o => show Below w.heap.size w (w.alloc o) from (Below.refl _ w).alloc (Nat.le_refl _) _)
  generalize hx : okM (ol ++ il) xss = x at *
  subst hok
  clear hx
  generalize renM (ol ++ il) xss = ms at *
  have HML := Lib.hid hml
  clear hml
  generalize xss.length = nx at *
  generalize ol.length = no at *
  generalize il.length = ni at *
  have hd1 : decide ((20 : Int) < (ni : Int)) = false := decide_eq_false (by omega)
  have hd2 : decide (20 < ni) = false := decide_eq_false (by omega)
  have HWT := Lib.hid (fun W al cl (ds : List Mk) (hv : RowM W (.slice al ds.length cl) ds) => tabWins_any al cl ds ex 0 ni 0 W hv (by simp) (by omega))
  have HTB := Lib.hid (fun ds hd => @win_one ms ds ex kn ni h20 (by rw [hkn]; exact HRI.out) hd)
  generalize kn.length = nk at *
  subst hkn
  have hkb : ((nk : Int) != (nk : Int)) = false := by simp
  go_enter Tryd.func20, Tryd.ntmps20
  go_upto_region 6 with (go_at_call 42; refine (HM.out _ (HA.out _)).mono ?_; rintro e w1 ⟨⟨u, rfl, _, hu⟩, hb1⟩; obtain ⟨⟨g0, g1, g2, g3⟩, hbw1⟩ := HCX.out _ hb1; obtain ⟨au, cu, rfl, hru⟩ := (hu rfl).rows)
  have HRW := Lib.hid hru
  have HBG := Lib.hid hb1
  have HBW := Lib.hid hbw1
  have hs1 := hb1.size
  clear hu hru hb1 hbw1
  have HKP : Hid (∀ W, Below (w.alloc (.cells #[.bool ex, .slice ao nk co, .slice ai ni ci, .slice a nx c] 32)).heap.size (w.alloc (.cells #[.bool ex, .slice ao nk co, .slice ai ni ci, .slice a nx c] 32)) W → W.cell? ⟨w.heap.size, 0, none⟩ = some (.bool ex) ∧ W.cell? ⟨w.heap.size, 1, none⟩ = some (.slice ao nk co) ∧ W.cell? ⟨w.heap.size, 2, none⟩ = some (.slice ai ni ci)) := fun W h => ⟨(HCX.out W h).1.1, (HCX.out W h).1.2.1, (HCX.out W h).1.2.2.1⟩
  have HZT : Hid (∀ W, Below (w1.heap.size + 1) (w1.drew.alloc (.cells #[.slice none 0 0, .bool false, .int .i64 0, .int .i64 0] 81)) W → (W.cell? ⟨w1.heap.size, 0, none⟩ = some (.slice none 0 0) ∧ W.cell? ⟨w1.heap.size, 1, none⟩ = some (.bool false) ∧ W.cell? ⟨w1.heap.size, 2, none⟩ = some (.int .i64 0) ∧ W.cell? ⟨w1.heap.size, 3, none⟩ = some (.int .i64 0)) ∧ ∀ j, W.frozen? ⟨w1.heap.size, j, none⟩ = false) := fun W h => cells4 w1.drew W _ _ _ _ 81 (by simpa using h)
  go_cut [8] (fun t wx => ∃ q al cl, ∃ ds : List Mk, t = .pointer (some ⟨q, 0, none⟩) ∧ RowM wx (.slice al ds.length cl) ds ∧ Hid (∀ x, x ∈ ds ↔ x ∈ restL kn ms) ∧ (wx.cell? ⟨q, 0, none⟩ = some (.slice al ds.length cl) ∧ wx.cell? ⟨q, 1, none⟩ = some (.bool ex) ∧ wx.cell? ⟨q, 2, none⟩ = some (.int .i64 0) ∧ wx.cell? ⟨q, 3, none⟩ = some (.int .i64 (ni : Int))) ∧ Below (w.heap.size + 1) (w.alloc (.cells #[.bool ex, .slice ao nk co, .slice ai ni ci, .slice a nx c] 32)) wx)
  case first =>
    go_region_held3 (fun W => W.cell? ⟨w.heap.size, 0, none⟩ = some (.bool ex) ∧ W.cell? ⟨w.heap.size, 1, none⟩ = some (.slice ao nk co) ∧ W.cell? ⟨w.heap.size, 2, none⟩ = some (.slice ai ni ci)) (first | exact HKP.out _ HBG.out | exact HKP.out _ HBG.out.drew | exact HKP.out _ (below_drewN HBG.out _) | exact HKP.out _ (HBG.out.drew.alloc hs1 _) | exact HKP.out _ (HBG.out.alloc hs1 _) | exact HKP.out _ hb3 | exact HKP.out _ (hb3.alloc hs3 _) | exact HKP.out _ (((hb3.setCell (by simpa using hs1) _).setCell (by simpa using hs1) _).setCell (by simpa using hs1) _ |>.setCell (by simpa using hs1) _)) (first
      | (go_at_call 43; refine (HRS.out _ _ _ (HRW.out.keep (Below.refl _ _).drew) (HKW.out _ (HBW.out.drew))).mono ?_; rintro e w2 ⟨⟨cv, ds, rfl, hcv, hnw, hds⟩, hw2⟩; have HCV := Lib.hid (And.intro hcv hnw); clear hnw; obtain ⟨al, cl, rfl, _⟩ := hcv; have hb3 := HBG.out.drew.trans (hw2.mono (by simpa using hs1)); have hs3 := hb3.size)
      | (go_at_call 43; refine (HRS.out _ _ _ (HRW.out.keep ((Below.refl _ _).drew.alloc (Nat.le_refl _) _)) (HKW.out _ (HBW.out.drew.alloc HBW.out.size _))).mono ?_; rintro e w2 ⟨⟨cv, ds, rfl, hcv, hnw, hds⟩, hw2⟩; have HCV := Lib.hid (And.intro hcv hnw); clear hnw; obtain ⟨al, cl, rfl, _⟩ := hcv; have hb3 := (HBG.out.drew.alloc hs1 _).trans (hw2.mono (by have := hs1; simp at this ⊢; omega)); have hs3 := hb3.size; obtain ⟨⟨z0, z1, z2, z3⟩, zf⟩ := HZT.out _ (by simpa using hw2); have zf0 := zf 0; have zf1 := zf 1; have zf2 := zf 2; have zf3 := zf 3))
    all_goals go_wp2_with fail
    all_goals go_meet
    · have hA := cells4 w2 _ _ _ _ _ 81 (Below.refl (w2.alloc (.cells #[.slice al ds.length cl, .bool ex, .int .i64 0, .int .i64 (ni : Int)] 81)).heap.size _)
      exact ⟨w2.heap.size, al, cl, ds, rfl, HCV.out.1.keep ((Below.refl _ _).alloc (Nat.le_refl _) _), hds, hA.1, by simpa using hb3.alloc hs3 _⟩
    · have hB := sets4_same z0 z1 z2 z3 (.slice al ds.length cl) (.bool ex) (.int .i64 0) (.int .i64 (ni : Int))
      refine ⟨w1.heap.size, al, cl, ds, rfl, (((HCV.out.1.set HCV.out.2 _ _ _ (by simp)).set HCV.out.2 _ _ _ (by simp)).set HCV.out.2 _ _ _ (by simp)).set HCV.out.2 _ _ _ (by simp), hds, hB, ?_⟩
      have := sets4_below (v0 := .slice al ds.length cl) (v1 := .bool ex) (v2 := .int .i64 0) (v3 := .int .i64 (ni : Int)) hb3 (q := w1.heap.size) (by simpa using hs1)
      simpa [sets4] using this
  case rest =>
    obtain ⟨q, al, cl, ds, rfl, hrm, HDS, ⟨t0, t1, t2, t3⟩, hbg⟩ := hcut
    clear g0 g1 g2 g3 hs1 HBG HBW HRW HZT HKP HM HRS HRI
    have hbg2 : Below (w.alloc (.cells #[.bool ex, .slice ao nk co, .slice ai ni ci, .slice a nx c] 32)).heap.size (w.alloc (.cells #[.bool ex, .slice ao nk co, .slice ai ni ci, .slice a nx c] 32)) wc := by simpa using hbg
    obtain ⟨_, hbw⟩ := HCX.out _ hbg2
    have HWK := Lib.hid (HWT.out wc al cl ds hrm)
    rw [HTB.out ds HDS.out] at HWK
    have HBW := Lib.hid hbw
    clear hrm hbg hbg2 hbw HCX HWT HTB
    generalize ds.length = nd at *
    go_wp2_with (go_at_call 44; refine HWK.out.mono ?_; rintro e w3 ⟨rfl, hw3⟩)
    go_ret2
    exact ⟨rfl, HBW.out.trans (hw3.mono HBW.out.size)⟩
end Go.Proofs.YtcodmijphejfdaaDoor

namespace Go.Proofs.YtcodmijphejfdaaDoor
open Go.RowKit

set_option maxRecDepth 8000 in
set_option maxHeartbeats 4000000 in
theorem value_ok (ex : Bool) (vo vi : Value) (ol il : List Int) (a : Option Addr) (c : Nat) (xss : List (List Int)) (w : World) (ho : Row w vo ol) (hi : Row w vi il) (hr : RowsAt w a c xss) (hb : ∀ v ∈ ol ++ il, -9223372036854775808 ≤ v ∧ v ≤ 9223372036854775807)
    (hint : ∀ xs ∈ xss, ∀ l ∈ xs, -9223372036854775807 ≤ l ∧ l ≤ 9223372036854775807) (hlen : ∀ xs ∈ xss, xs.length ≤ 1000000) (hm : xss.length ≤ 1000000) (hok : okM (ol ++ il) xss = true) (h20 : ol.length + il.length ≤ 20) :
    Calls Tryd.prog 19 #[.agg #[.bool ex, vo, vi, .slice a xss.length c]] w fun e w' => e = .returned (.tuple #[.bool (valueB (renM (ol ++ il) xss) ex ol.length il.length), .nilIface]) ∧ Below w.heap.size w w' := by
  have HM := Lib.hid (fun W (hW : Below w.heap.size w W) => matrix_any ex vo vi ol il a c xss W (ho.keep hW) (hi.keep hW) (hr.keep hW) (by omega) hb hint hlen hm)
  have HCX : Hid (∀ W, Below (w.alloc (.cells #[.bool ex, vo, vi, .slice a xss.length c] 32)).heap.size (w.alloc (.cells #[.bool ex, vo, vi, .slice a xss.length c] 32)) W → (W.cell? ⟨w.heap.size, 0, none⟩ = some (.bool ex) ∧ W.cell? ⟨w.heap.size, 1, none⟩ = some vo ∧ W.cell? ⟨w.heap.size, 2, none⟩ = some vi ∧ W.cell? ⟨w.heap.size, 3, none⟩ = some (.slice a xss.length c)) ∧ Below w.heap.size w W) := fun W h =>
    ⟨(cells4 w W _ _ _ _ 32 h).1, ((Below.refl _ w).alloc (Nat.le_refl _) _).trans (h.mono (by simp))⟩
  have hright : ∀ c ∈ renM (ol ++ il) xss, ∀ l ∈ c, l ≠ 0 ∧ plc l ≤ ol.length + il.length := fun c hc l hl => by
    have := ren_right hok c hc l hl
    rwa [List.length_append] at this
  have HRI := Lib.hid hright
  have hml : (renM (ol ++ il) xss).length = xss.length := by unfold renM; simp
  have HRS := Lib.hid (fun W au cu (hr : RowsAt W au cu (renM (ol ++ il) xss)) => rest_any au cu (renM (ol ++ il) xss) (.slice none 0 0) [] W hr (RowG.nil _ _ _) (inW_plc (by omega) hright) (by simp) (fun c hc l hl => by have := (hright c hc l hl).2; simp; omega) (by omega))
  obtain ⟨ao, co, rfl, _⟩ := ho
  obtain ⟨ai, ci, rfl, _⟩ := hi
  clear hr hb hint hlen hright
  have HA := Lib.hid (fun o => show Below w.heap.size w (w.alloc o) from (Below.refl _ w).alloc (Nat.le_refl _) _)
  generalize hx : okM (ol ++ il) xss = x at *
  subst hok
  clear hx
  have HYS := Lib.hid (fun o (h1 : o < 2 ^ ol.length) h => @value_yes (renM (ol ++ il) xss) ex ol.length il.length o h1 h)
  have HNN := Lib.hid (fun h => @value_no (renM (ol ++ il) xss) ex ol.length il.length h)
  generalize valueB (renM (ol ++ il) xss) ex ol.length il.length = r at *
  generalize renM (ol ++ il) xss = ms at *
  have HML := Lib.hid hml
  clear hml
  generalize xss.length = nx at *
  generalize ol.length = no at *
  generalize il.length = ni at *
  have hd1 : decide ((20 : Int) < (no : Int) + (ni : Int)) = false := decide_eq_false (by omega)
  have HWT := Lib.hid (fun W al cl (ds : List Mk) o (hv : RowM W (.slice al ds.length cl) ds) (h1 : o < 2 ^ no) => tabWins_any al cl ds ex no ni o W hv h1 h20)
  have HTB := Lib.hid (fun ds o (h1 : o < 2 ^ no) hd => @win_table ms ds ex no ni o h1 h20 HRI.out hd)
  go_enter Tryd.func19, Tryd.ntmps19
  go_upto_region 6 with (go_at_call 42; refine (HM.out _ (HA.out _)).mono ?_; rintro e w1 ⟨⟨u, rfl, _, hu⟩, hb1⟩; obtain ⟨⟨g0, g1, g2, g3⟩, hbw1⟩ := HCX.out _ hb1; obtain ⟨au, cu, rfl, hru⟩ := (hu rfl).rows)
  have HRW := Lib.hid hru
  have HBG := Lib.hid hb1
  have HBW := Lib.hid hbw1
  have hs1 := hb1.size
  clear hu hru hb1 hbw1
  have HKP : Hid (∀ W, Below (w.alloc (.cells #[.bool ex, .slice ao no co, .slice ai ni ci, .slice a nx c] 32)).heap.size (w.alloc (.cells #[.bool ex, .slice ao no co, .slice ai ni ci, .slice a nx c] 32)) W → W.cell? ⟨w.heap.size, 0, none⟩ = some (.bool ex) ∧ W.cell? ⟨w.heap.size, 1, none⟩ = some (.slice ao no co) ∧ W.cell? ⟨w.heap.size, 2, none⟩ = some (.slice ai ni ci)) := fun W h => ⟨(HCX.out W h).1.1, (HCX.out W h).1.2.1, (HCX.out W h).1.2.2.1⟩
  have HZT : Hid (∀ W, Below (w1.heap.size + 1) (w1.drew.alloc (.cells #[.slice none 0 0, .bool false, .int .i64 0, .int .i64 0] 81)) W → (W.cell? ⟨w1.heap.size, 0, none⟩ = some (.slice none 0 0) ∧ W.cell? ⟨w1.heap.size, 1, none⟩ = some (.bool false) ∧ W.cell? ⟨w1.heap.size, 2, none⟩ = some (.int .i64 0) ∧ W.cell? ⟨w1.heap.size, 3, none⟩ = some (.int .i64 0)) ∧ ∀ j, W.frozen? ⟨w1.heap.size, j, none⟩ = false) := fun W h => cells4 w1.drew W _ _ _ _ 81 (by simpa using h)
  go_cut [6] (fun t wx => ∃ q al cl, ∃ ds : List Mk, t = .pointer (some ⟨q, 0, none⟩) ∧ RowM wx (.slice al ds.length cl) ds ∧ Hid (∀ x, x ∈ ds ↔ x ∈ restL [] ms) ∧ (wx.cell? ⟨q, 0, none⟩ = some (.slice al ds.length cl) ∧ wx.cell? ⟨q, 1, none⟩ = some (.bool ex) ∧ wx.cell? ⟨q, 2, none⟩ = some (.int .i64 (no : Int)) ∧ wx.cell? ⟨q, 3, none⟩ = some (.int .i64 (ni : Int))) ∧ Below (w.heap.size + 1) (w.alloc (.cells #[.bool ex, .slice ao no co, .slice ai ni ci, .slice a nx c] 32)) wx)
  case first =>
    go_region_held3 (fun W => W.cell? ⟨w.heap.size, 0, none⟩ = some (.bool ex) ∧ W.cell? ⟨w.heap.size, 1, none⟩ = some (.slice ao no co) ∧ W.cell? ⟨w.heap.size, 2, none⟩ = some (.slice ai ni ci)) (first | exact HKP.out _ HBG.out | exact HKP.out _ HBG.out.drew | exact HKP.out _ (below_drewN HBG.out _) | exact HKP.out _ (HBG.out.drew.alloc hs1 _) | exact HKP.out _ (HBG.out.alloc hs1 _) | exact HKP.out _ hb3 | exact HKP.out _ (hb3.alloc hs3 _) | exact HKP.out _ (((hb3.setCell (by simpa using hs1) _).setCell (by simpa using hs1) _).setCell (by simpa using hs1) _ |>.setCell (by simpa using hs1) _)) (first
      | (go_at_call 43; refine (HRS.out _ _ _ (HRW.out.keep (Below.refl _ _).drew)).mono ?_; rintro e w2 ⟨⟨cv, ds, rfl, hcv, hnw, hds⟩, hw2⟩; have HCV := Lib.hid (And.intro hcv hnw); clear hnw; obtain ⟨al, cl, rfl, _⟩ := hcv; have hb3 := HBG.out.drew.trans (hw2.mono (by simpa using hs1)); have hs3 := hb3.size)
      | (go_at_call 43; refine (HRS.out _ _ _ (HRW.out.keep ((Below.refl _ _).drew.alloc (Nat.le_refl _) _))).mono ?_; rintro e w2 ⟨⟨cv, ds, rfl, hcv, hnw, hds⟩, hw2⟩; have HCV := Lib.hid (And.intro hcv hnw); clear hnw; obtain ⟨al, cl, rfl, _⟩ := hcv; have hb3 := (HBG.out.drew.alloc hs1 _).trans (hw2.mono (by have := hs1; simp at this ⊢; omega)); have hs3 := hb3.size; obtain ⟨⟨z0, z1, z2, z3⟩, zf⟩ := HZT.out _ (by simpa using hw2); have zf0 := zf 0; have zf1 := zf 1; have zf2 := zf 2; have zf3 := zf 3))
    all_goals go_wp2_with fail
    all_goals go_meet
    · have hA := cells4 w2 _ _ _ _ _ 81 (Below.refl (w2.alloc (.cells #[.slice al ds.length cl, .bool ex, .int .i64 (no : Int), .int .i64 (ni : Int)] 81)).heap.size _)
      exact ⟨w2.heap.size, al, cl, ds, rfl, HCV.out.1.keep ((Below.refl _ _).alloc (Nat.le_refl _) _), hds, hA.1, by simpa using hb3.alloc hs3 _⟩
    · have hB := sets4_same z0 z1 z2 z3 (.slice al ds.length cl) (.bool ex) (.int .i64 (no : Int)) (.int .i64 (ni : Int))
      refine ⟨w1.heap.size, al, cl, ds, rfl, (((HCV.out.1.set HCV.out.2 _ _ _ (by simp)).set HCV.out.2 _ _ _ (by simp)).set HCV.out.2 _ _ _ (by simp)).set HCV.out.2 _ _ _ (by simp), hds, hB, ?_⟩
      have := sets4_below (v0 := .slice al ds.length cl) (v1 := .bool ex) (v2 := .int .i64 (no : Int)) (v3 := .int .i64 (ni : Int)) hb3 (q := w1.heap.size) (by simpa using hs1)
      simpa [sets4] using this
  case rest =>
    obtain ⟨q, al, cl, ds, rfl, hrm, HDS, ⟨t0, t1, t2, t3⟩, hbg⟩ := hcut
    clear g0 g1 g2 g3 hs1 HBG HBW HRW HZT HKP HM HRS HRI
    have hbg2 : Below (w.alloc (.cells #[.bool ex, .slice ao no co, .slice ai ni ci, .slice a nx c] 32)).heap.size (w.alloc (.cells #[.bool ex, .slice ao no co, .slice ai ni ci, .slice a nx c] 32)) wc := by simpa using hbg
    obtain ⟨⟨g0, _, _, _⟩, hbw⟩ := HCX.out _ hbg2
    have HRM := Lib.hid hrm
    have HBW := Lib.hid hbw
    have hq := World.block_lt_of_cell? wc _ t0
    have hgl := World.block_lt_of_cell? wc _ g0
    simp only at hq hgl
    clear hrm hbg hbg2 hbw HCX
    have hpi := pow_wrap no (by omega)
    have hpb := pow20 (show no ≤ 20 by omega)
    generalize hT : 2 ^ no = T at *
    clear hT
    go_wp2_with fail
    rw [hpi]
    clear hpi
    go_loopw [7, 39] (fun _ i wr => ∃ k : Nat, k ≤ T ∧ i = .int .i64 k ∧ Below wc.heap.size wc wr ∧ Hid (∀ j, j < k → winsB ms ex (bitsN j no) ni = false)) (fun _ i _ => T - (intOf i).toNat)
    case atStart => exact ⟨0, Nat.zero_le _, rfl, Below.refl _ _, fun j hj => absurd hj (Nat.not_lt_zero _)⟩
    case round =>
      obtain ⟨k, hk, rfl, hbr, HQ⟩ := hrel
      have t0' := (hbr.cell (p := ⟨q, 0, none⟩) hq).trans t0
      have t1' := (hbr.cell (p := ⟨q, 1, none⟩) hq).trans t1
      have t2' := (hbr.cell (p := ⟨q, 2, none⟩) hq).trans t2
      have t3' := (hbr.cell (p := ⟨q, 3, none⟩) hq).trans t3
      have g0' := (hbr.cell (p := ⟨w.heap.size, 0, none⟩) hgl).trans g0
      clear t0 t1 t2 t3
      have HBR := Lib.hid hbr
      have HBRS := Lib.hid hbr.size
      by_cases hlt : k < T
      · have HWK := Lib.hid (HWT.out wr al cl ds k (HRM.out.keep hbr) hlt)
        rw [HTB.out ds k hlt HDS.out] at HWK
        have HYK := Lib.hid (HYS.out k hlt)
        have HQ1 : Hid (winsB ms ex (bitsN k no) ni = false → ∀ j, j < k + 1 → winsB ms ex (bitsN j no) ni = false) := fun h j hj => by
          by_cases e : j = k
          · subst e; exact h
          · exact HQ.out j (by omega)
        clear hbr HYS
        generalize winsB ms ex (bitsN k no) ni = t at *
        generalize ds.length = nd at *
        cases t with
        | true =>
          have HF := Lib.hid (HYK.out rfl)
          clear HYK HQ1
          go_wp2_with (go_at_call 44; refine HWK.out.mono ?_; rintro e w3 ⟨rfl, hw3⟩; have g03 := (hw3.cell (p := ⟨w.heap.size, 0, none⟩) (Nat.lt_of_lt_of_le hgl HBRS.out)).trans g0')
          go_ret2
          exact ⟨by rw [HF.out]; rfl, HBW.out.trans ((HBR.out.trans (hw3.mono HBRS.out)).mono (by have := HBW.out.size; exact this))⟩
        | false =>
          have HQ2 := Lib.hid (HQ1.out rfl)
          clear HYK HQ1
          go_wp2_with (go_at_call 44; refine HWK.out.mono ?_; rintro e w3 ⟨rfl, hw3⟩)
          go_roundw
          case rel => exact ⟨k + 1, by omega, by go_num, HBR.out.trans (hw3.mono HBRS.out), HQ2.out⟩
          case measure => simp [intOf]; omega
      · have hkT : k = T := by omega
        subst hkT
        have HF := Lib.hid (HNN.out HQ.out)
        clear hbr hlt HQ HYS HNN
        go_wp2_with fail
        go_ret2
        exact ⟨by rw [HF.out]; rfl, HBW.out.trans (HBR.out.mono (by have := HBW.out.size; exact this))⟩
end Go.Proofs.YtcodmijphejfdaaDoor

namespace Go.Proofs.YtcodmijphejfdaaDoor
open Go.RowKit

theorem sq_in (F v : Nat) (h1 : 1 ≤ v) (h2 : v ≤ F) : sqT 0 (min (v - 1) F) ++ [(v : Int)] = sqT 0 (min v F) ∧ sqT F (v - 1 - F) = sqT F (v - F) := by
  have e1 : min (v - 1) F = v - 1 := by omega
  have e2 : min v F = v - 1 + 1 := by omega
  rw [e1, e2, sqT_snoc, show v - 1 - F = v - F by omega]
  exact ⟨by congr 2; omega, rfl⟩
theorem sq_out (F v : Nat) (h1 : 1 ≤ v) (h2 : F < v) : sqT F (v - 1 - F) ++ [(v : Int)] = sqT F (v - F) ∧ sqT 0 (min (v - 1) F) = sqT 0 (min v F) := by
  have e1 : v - F = v - 1 - F + 1 := by omega
  rw [e1, sqT_snoc, show min (v - 1) F = min v F by omega]
  exact ⟨by congr 2; omega, rfl⟩
section
variable {W : World} {ex : Bool} {g1 g2 : Value} {F : Nat} {a : Option Addr} {c : Nat} {xss : List (List Int)}
theorem six_in {F : Nat} (hF : F ≤ 6) : ∀ v ∈ sqT 0 F ++ sqT F (6 - F), -9223372036854775808 ≤ v ∧ v ≤ 9223372036854775807 := by
  rw [sqT_six F hF]
  intro v hv
  simp at hv
  omega
theorem lit_in (h6 : ∀ c ∈ xss, Lit6 c) : ∀ xs ∈ xss, ∀ l ∈ xs, -9223372036854775807 ≤ l ∧ l ≤ 9223372036854775807 := fun xs hx l hl => by
  have := h6 xs hx l hl
  omega
theorem tu_value (ex : Bool) (hF : F ≤ 6) (h1 : Row W g1 (sqT 0 F)) (h2 : Row W g2 (sqT F (6 - F))) (hr : RowsAt W a c xss) (h6 : ∀ c ∈ xss, Lit6 c) (hl : ∀ c ∈ xss, c.length ≤ 1000000) (hm : xss.length ≤ 1000000) : Calls Tryd.prog 19 #[.agg #[.bool ex, g1, g2, .slice a xss.length c]] W fun e w' => e = .returned (.tuple #[.bool (valueB xss ex F (6 - F)), .nilIface]) ∧ Below W.heap.size W w' := by
  obtain ⟨k1, k2⟩ := renM6 xss h6
  have := value_ok ex g1 g2 (sqT 0 F) (sqT F (6 - F)) a c xss W h1 h2 hr (six_in hF) (lit_in h6) hl hm (by rw [sqT_six F hF]; exact k2) (by rw [sqT_len, sqT_len]; omega)
  rw [sqT_six F hF, k1, sqT_len, sqT_len] at this
  exact this
theorem tu_wins (ex : Bool) {kv : Value} {kn : List Bool} (hF : F ≤ 6) (h1 : Row W g1 (sqT 0 F)) (h2 : Row W g2 (sqT F (6 - F))) (hr : RowsAt W a c xss) (hk : BoolRow W kv kn) (hkn : kn.length = F) (h6 : ∀ c ∈ xss, Lit6 c) (hl : ∀ c ∈ xss, c.length ≤ 1000000) (hm : xss.length ≤ 1000000) : Calls Tryd.prog 20 #[.agg #[.bool ex, g1, g2, .slice a xss.length c], kv] W fun e w' => e = .returned (.tuple #[.bool (winsB xss ex kn (6 - F)), .nilIface]) ∧ Below W.heap.size W w' := by
  obtain ⟨k1, k2⟩ := renM6 xss h6
  have := wins_ok ex g1 g2 (sqT 0 F) (sqT F (6 - F)) a c xss kv kn W h1 h2 hr hk (six_in hF) (lit_in h6) hl hm (by rw [sqT_six F hF]; exact k2) (by rw [sqT_len]; exact hkn) (by rw [sqT_len]; omega) (by rw [sqT_len]; omega)
  rw [sqT_six F hF, k1, sqT_len] at this
  exact this
end
/-- The clause of the first game, in memory. -/
theorem one_clause {w W : World} {B : Nat} {ab : Option Addr} {m cb : Nat} {xs : List Int} (hx : xs.length = m) (hd : w.ownsRow B 3 1 (.slice ab m cb) m (xs.map (Value.int .i64))) (hB : B ≤ w.heap.size) (hb : Below (w.heap.size + 1) (w.alloc (.cells #[.slice ab m cb] 30)) W) : RowsAt W (some ⟨w.heap.size, 0, none⟩) 1 [xs] := by
  have h1 : Below w.heap.size w (w.alloc (.cells #[.slice ab m cb] 30)) := (Below.refl _ w).alloc (Nat.le_refl _) _
  have hg : ClG (w.alloc (.cells #[.slice ab m cb] 30)) B (.slice (some ⟨w.heap.size, 0, none⟩) 1 1) (.slice none 0 0) [.slice ab m cb] [xs] [] :=
    ⟨rfl, own_lit w B 30 [.slice ab m cb] hB (by simp), fun j hj => by
      have : j = 0 := by simpa using hj
      subst this
      refine ⟨_, rfl, by subst hx; exact own_keep hd h1, fun g hg => ⟨Nat.lt_of_lt_of_le (own_ltG hd hg) h1.size, fun e => ?_, fun e => (by cases e)⟩⟩
      have := own_ltG hd hg
      simp [Value.ownBlock] at e
      omega, World.ownsRow_nil _ _ _ _, fun _ _ e => (by cases e)⟩
  have hk := hg.keep (w' := W) (by simpa using hb)
  obtain ⟨a', c', e, h⟩ := hk.rows
  injection e with e1 e2 e3
  subst e1; subst e3
  exact h
end Go.Proofs.YtcodmijphejfdaaDoor

namespace Go.Proofs.YtcodmijphejfdaaDoor
open Go.RowKit

theorem rowNil (w : World) : Row w (.slice none 0 0) [] := ⟨none, 0, rfl, Nat.le_refl _, by unfold maxLen; omega, .inl rfl⟩
theorem rowsNil (w : World) : RowsAt w none 0 [] := ⟨Nat.le_refl _, by unfold maxLen; omega, .inl rfl⟩

set_option maxHeartbeats 1000000 in
theorem first7_any (w : World) : Calls Tryd.prog 17 #[] w fun e w' => e = .returned (.bool true) ∧ Below w.heap.size w w' := by
  have HV := Lib.hid (fun W => value_ok false (.slice none 0 0) (.slice none 0 0) [] [] none 0 [] W (rowNil W) (rowNil W) (rowsNil W) (by simp) (by simp) (by simp) (by simp) (by simp [okM]) (by simp))
  have hv : valueB (renM ([] ++ []) []) false (List.length ([] : List Int)) (List.length ([] : List Int)) = true := by decide
  rw [hv] at HV
  clear hv
  go_enter Tryd.func17, Tryd.ntmps17
  go_wp2_with (go_at_call 19; refine (HV.out _).mono ?_; rintro e w1 ⟨rfl, hb1⟩)
  go_ret
  exact ⟨rfl, hb1⟩

end Go.Proofs.YtcodmijphejfdaaDoor

namespace Go.Proofs.YtcodmijphejfdaaDoor
open Go.RowKit

theorem litOf6 (z : Int) : litOf z 6 ≠ 0 ∧ -6 ≤ litOf z 6 ∧ litOf z 6 ≤ 6 := by
  have h1 := Int.emod_nonneg z (show (2 * 6 : Int) ≠ 0 by decide)
  have h2 := Int.emod_lt_of_pos z (show (0 : Int) < 2 * 6 by decide)
  unfold litOf
  split <;> omega
theorem ClG.chg {w w' : World} {B : Nat} {o c : Value} {vs : List Value} {done : List (List Int)} {cur : List Int} {S : List Nat} (h : ClG w B o c vs done cur) (hc : Chg S w w') (hS : ∀ i ∈ S, i < B) : ClG w' B o c vs done cur where
  len := h.len
  out := own_chg h.out hc fun k hk hm => absurd (h.out.lt k hk).1 (Nat.not_le.2 (hS k hm))
  each := fun j hj => by
    obtain ⟨v, h1, h2, h3⟩ := h.each j hj
    exact ⟨v, h1, own_chg h2 hc fun k hk hm => absurd (h2.lt k hk).1 (Nat.not_le.2 (hS k hm)), fun g hg => ⟨Nat.lt_of_lt_of_le (h3 g hg).1 hc.size, (h3 g hg).2⟩⟩
  row := own_chg h.row hc fun k hk hm => absurd (h.row.lt k hk).1 (Nat.not_le.2 (hS k hm))
  sep := h.sep
theorem app_lit (w : World) (B : Nat) (y : Int) (hB : B ≤ w.heap.size) : App B w (w.alloc (.cells #[.int .i64 y] 3)) (.slice none 0 0) (.slice (some ⟨w.heap.size, 0, none⟩) 1 1) :=
  ⟨(Below.refl B w).alloc hB _, fun _ hk _ => Below.heap_alloc _ _ _ hk, .inr ⟨w.heap.size, rfl, Nat.le_refl _⟩⟩

theorem sz_set (w : World) (a : Addr) (v : Value) : (w.setCell a v).heap.size = w.heap.size := by simp
/-- The load of the clauses' cell: it turns within its region. -/
def ldTu : Op := Op.load 23 (Operand.tmp 65)
theorem ldTu_eq : ldTu = Op.load 23 (Operand.tmp 65) := rfl
theorem step_ldTu {ops : Array Oper} {o : Oper} {a : Act} {K : Act → World → Prop} {Q : Exit → Act → World → Prop} {EE : Prop} (hgd : o.guard = none) (ho : o.op = ldTu) (w : World) (b i : Nat) (v : Value) (hx : a.eval (Operand.tmp 65) = .pointer (some ⟨b, i, none⟩)) (hc : w.cell? ⟨b, i, none⟩ = some v) (h : K (a.put o.dst v) w) :
    if Region.wanted o (yielded ops a.tmps) = true then Oper.wp Tryd.prog o a w K Q else EE := by
  rw [if_pos (by simp [Region.wanted, hgd])]
  have hrun : (loadVar 23 ⟨b, i, none⟩).run Tryd.prog w = .ok v w := by
    simp [loadVar, isAgg, run_underlying Tryd.underlying23, hc, go_sem]
  have ho' := ho.trans ldTu_eq
  unfold Oper.wp execOp
  simp only [ho', hx, Instr.loadAt, Instr.sureAddr, Sem.run_bind, Sem.run_pure, Result.andThen_ok, hrun]
  exact h

set_option maxRecDepth 8000 in
set_option maxHeartbeats 8000000 in
theorem lawTu_any (a : Option Addr) (cap : Nat) (ls : List Int) (x : Int) (ex : Bool) (n : Int) (w : World) (hv : RowAt w a cap ls) (hls : ∀ y ∈ ls, -9223372036854775808 ≤ y ∧ y ≤ 9223372036854775807) (_hx1 : -9223372036854775808 ≤ x) (_hx2 : x ≤ 9223372036854775807) :
    Calls Tryd.prog 4 #[.slice a ls.length cap, .int .i64 x, .bool ex, .int .i64 n] w fun e w' => e = .returned (.bool true) ∧ Below w.heap.size w w' := by
  have HF := Lib.hid (first7_any w)
  by_cases hout : 8 < ls.length ∨ ls.length = 0
  · clear hv hls
    generalize ls.length = m at *
    by_cases d1 : 8 < m
    · have d1' : decide (8 < m) = true := decide_eq_true d1
      clear hout
      go_enter Tryd.func4, Tryd.ntmps4
      go_wp2_with fail
      refine HF.out.mono ?_
      rintro e w1 ⟨rfl, hb1⟩
      go_wp2_with fail
      go_ret
      exact ⟨rfl, hb1⟩
    · have d2 : m = 0 := by omega
      subst d2
      clear hout d1
      go_enter Tryd.func4, Tryd.ntmps4
      go_wp2_with fail
      refine HF.out.mono ?_
      rintro e w1 ⟨rfl, hb1⟩
      go_wp2_with fail
      go_ret
      exact ⟨rfl, hb1⟩
  have d1 : decide (8 < ls.length) = false := decide_eq_false fun h => hout (.inl h)
  have d2 : ((ls.length : Int) == 0) = false := beq_eq_false_iff_ne.2 (by omega)
  have e1 : ¬ 8 < ls.length := fun h => hout (.inl h)
  have e2 : ¬ ls.length = 0 := fun h => hout (.inr h)
  clear hout
  obtain ⟨hv1, hv2, hv3⟩ := hv
  unfold maxLen at hv2
  have HV := Lib.hid hv3; clear hv3
  have HBD : Hid (∀ k, k < ls.length → -9223372036854775808 ≤ ls.getD k 0 ∧ ls.getD k 0 ≤ 9223372036854775807) := fun k hk => hls _ (by simp [List.getD, hk])
  clear hls
  generalize ls.length = m at *
  have m1 := Int.lt_tmod_of_pos x (show (0 : Int) < 7 by decide)
  have m2 := Int.tmod_lt_of_pos x (show (0 : Int) < 7 by decide)
  go_enter Tryd.func4, Tryd.ntmps4
  go_wp2_with fail
  refine HF.out.mono ?_
  rintro e w1 ⟨rfl, hb1⟩
  have HB1 := Lib.hid hb1
  clear hb1 HF
  go_wp2_with fail
  have es : (x.tmod 7 + 7) % 7 = x.tmod 7 % 7 := by simp
  try rw [es]
  clear es
  have f1 := Int.emod_nonneg (x.tmod 7) (show (7 : Int) ≠ 0 by decide)
  have f2 := Int.emod_lt_of_pos (x.tmod 7) (show (0 : Int) < 7 by decide)
  generalize x.tmod 7 % 7 = Fi at *
  obtain ⟨F, rfl⟩ := Int.eq_ofNat_of_zero_le f1
  clear m1 m2 f1
  have hF6 : F ≤ 6 := by omega
  go_loopw [11, 10] (fun i u wr => ∃ (k : Nat) (xs : List Int), k ≤ m ∧ i = .int .i64 k ∧ wr.ownsRow w1.heap.size 3 1 u k (xs.map (Value.int .i64)) ∧ Below w1.heap.size w1 wr ∧ Hid (Lit6 xs) ∧ Hid (xs.length = k)) (fun i _ _ => m - (intOf i).toNat)
  case atStart => exact ⟨0, [], Nat.zero_le _, rfl, World.ownsRow_nil _ _ _ _, Below.refl _ _, fun l hl => (by cases hl), rfl⟩
  case round =>
    obtain ⟨k, xs, hk, rfl, hown, hbr, HXS, HXL⟩ := hrel
    obtain ⟨ab, cb, rfl, _, hcb⟩ := own_shape hown
    unfold maxLen at hcb
    by_cases hlt : k < m
    · obtain ⟨b, off, ha, hb, hc⟩ := HV.out.resolve_left (by omega)
      subst ha
      have hbw := HB1.out.trans (hbr.mono HB1.out.size)
      have q0 := (hbw.cell (p := ⟨b, off + k, none⟩) hb).trans (hc k hlt)
      obtain ⟨z1, z2⟩ := HBD.out k hlt
      clear hc hbw
      generalize ls.getD k 0 = y at *
      have LT := Lib.hid (lit_any y 6 wr (by omega) (by omega) z1 z2)
      have HL6 := Lib.hid (litOf6 y)
      generalize litOf y 6 = t at *
      have hsz := hbr.size
      have HBR := Lib.hid hbr
      have HXN : Hid (Lit6 (xs ++ [t])) := fun l hl => by
        rcases List.mem_append.1 hl with h | h
        · exact HXS.out l h
        · rw [List.mem_singleton] at h; subst h; exact HL6.out
      clear hbr
      go_wp2_with (first
        | (go_at_call 18; refine LT.out.mono ?_; rintro e w' ⟨rfl, rfl⟩)
        | (at_builtin; refine wpList_app1 rfl _ _ rfl wr w1.heap.size _ _ _ t hown hsz (by omega) rfl rfl ?_; intro u' w5 hown5 hap5))
      go_roundw
      case rel => exact ⟨k + 1, xs ++ [t], by omega, by go_num, hown5, HBR.out.trans hap5.below, HXN.out, by unfold Hid; simp [HXL.out]⟩
      case measure => simp [intOf]; omega
    · have hkm : m = k := by omega
      subst hkm
      rename World => w2
      have HD2 := Lib.hid hown
      have HB2 := Lib.hid hbr
      have HCEL : Hid (∀ i, i < m → ∃ b off, ab = some ⟨b, off, none⟩ ∧ b < w2.heap.size ∧ w2.cell? ⟨b, off + i, none⟩ = some (.int .i64 (xs.getD i 0))) := fun i hi => by
        obtain ⟨a', c', e', _, _, h3⟩ := own_row hown
        injection e' with x1 x2 x3
        subst x1; subst x3
        obtain ⟨b, off, hba, hbl, hbc⟩ := h3.resolve_left (by rw [HXL.out]; omega)
        exact ⟨b, off, hba, hbl, hbc i (by rw [HXL.out]; exact hi)⟩
      clear hown hbr HV HBD
      go_wp2_with fail
      have hq1 : (w2.alloc (.cells #[.slice ab m cb] 30)).heap.size = w2.heap.size + 1 := by simp
      have HTX := Lib.hid (TX.start (w2.alloc (.cells #[.slice ab m cb] 30)) ex (!ex) (.slice none 0 0) (.slice none 0 0) (.slice (some ⟨w2.heap.size, 0, none⟩) 1 1) (.slice none 0 0) (.slice none 0 0) (.slice none 0 0) 32)
      have HBW : Hid (Below (w2.alloc (.cells #[.slice ab m cb] 30)).heap.size (w2.alloc (.cells #[.slice ab m cb] 30)) (((w2.alloc (.cells #[.slice ab m cb] 30)).alloc (.cells #[.bool ex, .slice none 0 0, .slice none 0 0, .slice (some ⟨w2.heap.size, 0, none⟩) 1 1] 32)).alloc (.cells #[.bool (!ex), .slice none 0 0, .slice none 0 0, .slice none 0 0] 32))) := ((Below.refl _ _).alloc (Nat.le_refl _) _).alloc (by simp) _
      have HDB : Hid (∀ W, Below (w2.alloc (.cells #[.slice ab m cb] 30)).heap.size (w2.alloc (.cells #[.slice ab m cb] 30)) W → Below w2.heap.size w2 W) := fun W h => ((Below.refl _ w2).alloc (Nat.le_refl _) _).trans (h.mono (by simp))
      rw [hq1] at HTX HBW HDB
      have HS3 : Hid ((((w2.alloc (.cells #[.slice ab m cb] 30)).alloc (.cells #[.bool ex, .slice none 0 0, .slice none 0 0, .slice (some ⟨w2.heap.size, 0, none⟩) 1 1] 32)).alloc (.cells #[.bool (!ex), .slice none 0 0, .slice none 0 0, .slice none 0 0] 32)).heap.size = w2.heap.size + 1 + 2) := by unfold Hid; simp
      clear hq1
      generalize hey : (!ex) = ey at *
      have HEY := Lib.hid hey
      clear hey
      generalize (((w2.alloc (.cells #[.slice ab m cb] 30)).alloc (.cells #[.bool ex, .slice none 0 0, .slice none 0 0, .slice (some ⟨w2.heap.size, 0, none⟩) 1 1] 32)).alloc (.cells #[.bool ey, .slice none 0 0, .slice none 0 0, .slice none 0 0] 32)) = W2 at *
      go_loopw [14] (fun i wr => ∃ (k : Nat) (o : Value) (vs : List Value) (done : List (List Int)), k ≤ m ∧ i = .int .i64 k ∧ TX wr (w2.heap.size + 1) ex ey (.slice none 0 0) (.slice none 0 0) (.slice (some ⟨w2.heap.size, 0, none⟩) 1 1) (.slice none 0 0) (.slice none 0 0) o ∧ ClG wr (w2.heap.size + 1 + 2) o (.slice none 0 0) vs done [] ∧ Hid (done.length = k) ∧ Hid (done = flipM (xs.take k)) ∧ Below (w2.heap.size + 1) (w2.alloc (.cells #[.slice ab m cb] 30)) wr) (fun i _ => m - (intOf i).toNat)
      case atStart => exact ⟨0, _, [], [], Nat.zero_le _, rfl, HTX.out, ClG.start _ _, rfl, rfl, HBW.out⟩
      case round =>
        obtain ⟨k, o, vs, done, hk2, rfl, htx, hcl, HDL, HDN, hbr⟩ := hrel
        obtain ⟨ao, co, e0, _⟩ := hcl.rows
        rw [HDL.out] at e0
        subst e0
        have HTR := Lib.hid htx
        have HCL := Lib.hid hcl
        have HBR := Lib.hid hbr
        have hsz := htx.sz
        clear htx hcl hbr HTX HBW
        by_cases hlt : k < m
        · obtain ⟨b, off, hab, hbl, hbc⟩ := HCEL.out k hlt
          subst hab
          have q0 : wr.cell? ⟨b, off + k, none⟩ = some (.int .i64 (xs.getD k 0)) := ((HDB.out _ HBR.out).cell (p := ⟨b, off + k, none⟩) hbl).trans hbc
          have HY : Hid (Lit6 xs → xs.getD k 0 ≠ 0 ∧ -6 ≤ xs.getD k 0 ∧ xs.getD k 0 ≤ 6) := fun h => h _ (by simp [List.getD, HXL.out, hlt])
          have HY := Lib.hid (HY.out HXS.out)
          have HNX : Hid (done ++ [[-(xs.getD k 0)]] = flipM (xs.take (k + 1))) := by
            unfold Hid
            rw [HDN.out, take_snoc xs k (by rw [HXL.out]; exact hlt)]
            simp [flipM]
          generalize xs.getD k 0 = y at *
          have w0 : IntKind.i64.wrap (-y) = -y := IntWalk.i64_in _ (by have := HY.out; omega)
          have HSS : Hid (∀ W, Below wr.heap.size wr W → W.cell? ⟨w2.heap.size + 1 + 1, 3, none⟩ = some (.slice ao k co) ∧ W.cell? ⟨b, off + k, none⟩ = some (.int .i64 y)) := fun W h => ⟨(HTR.out.below (h.mono hsz)).b3, (h.cell (p := ⟨b, off + k, none⟩) (World.block_lt_of_cell? _ _ q0)).trans q0⟩
          have hz1 : (wr.drew.alloc (.cells #[.int .i64 (-y)] 3)).heap.size = wr.heap.size + 1 := by simp
          have hA1 : Below wr.heap.size wr (wr.drew.alloc (.cells #[.int .i64 (-y)] 3)) := ((Below.refl _ _).drew).alloc (Nat.le_refl _) _
          have hA2 : Below wr.heap.size wr ((wr.drew.alloc (.cells #[.int .i64 (-y)] 3)).alloc (.cells #[.slice (some ⟨wr.heap.size, 0, none⟩) 1 1] 30)) := hA1.alloc (by rw [hz1]; omega) _
          have hA3 : Below wr.heap.size (wr.alloc (.cells #[.int .i64 (-y)] 3)) ((wr.drew.alloc (.cells #[.int .i64 (-y)] 3)).alloc (.cells #[.slice (some ⟨wr.heap.size, 0, none⟩) 1 1] 30)) := (((Below.refl _ (wr.alloc (.cells #[.int .i64 (-y)] 3))).drew).alloc (by simp) _ : Below wr.heap.size _ ((wr.alloc (.cells #[.int .i64 (-y)] 3)).drew.alloc _))
          have HLT : Hid (((wr.drew.alloc (.cells #[.int .i64 (-y)] 3)).alloc (.cells #[.slice (some ⟨wr.heap.size, 0, none⟩) 1 1] 30)).ownsRow (w2.heap.size + 1 + 2) 3 1 (.slice (some ⟨wr.heap.size, 0, none⟩) 1 1) 1 [.int .i64 (-y)]) := own_keep (own_lit wr.drew (w2.heap.size + 1 + 2) 3 [.int .i64 (-y)] (by simpa using hsz) (by simp)) ((Below.refl _ _).alloc (Nat.le_refl _) _)
          have HSL : Hid (∀ j u, [Value.slice (some ⟨wr.heap.size, 0, none⟩) 1 1][j]? = some u → ((wr.drew.alloc (.cells #[.int .i64 (-y)] 3)).alloc (.cells #[.slice (some ⟨wr.heap.size, 0, none⟩) 1 1] 30)).cell? ((⟨wr.heap.size + 1, 0, none⟩ : Addr).add j) = some u) := by
            have := sl_cells (wr.drew.alloc (.cells #[.int .i64 (-y)] 3)) (.slice (some ⟨wr.heap.size, 0, none⟩) 1 1)
            rw [hz1] at this
            exact this
          have HOW := Lib.hid (own_keep HCL.out.out hA2)
          have HSA : Hid (w2.heap.size + 1 + 2 ≤ ((wr.drew.alloc (.cells #[.int .i64 (-y)] 3)).alloc (.cells #[.slice (some ⟨wr.heap.size, 0, none⟩) 1 1] 30)).heap.size) := Nat.le_trans hsz hA2.size
          have HF : Hid (∀ o' w6, w6.ownsRow (w2.heap.size + 1 + 2) 30 1 o' (done.length + 1) (vs ++ [.slice (some ⟨wr.heap.size, 0, none⟩) 1 1]) → App (w2.heap.size + 1 + 2) ((wr.drew.alloc (.cells #[.int .i64 (-y)] 3)).alloc (.cells #[.slice (some ⟨wr.heap.size, 0, none⟩) 1 1] 30)) w6 (.slice ao k co) o' → (w6.cell? ⟨w2.heap.size + 1 + 1, 3, none⟩ = some (.slice ao k co) ∧ (∀ k, w6.frozen? ⟨w2.heap.size + 1 + 1, k, none⟩ = false) ∧ w6.cell? ⟨b, off + k, none⟩ = some (.int .i64 y)) ∧ (w6.setCell ⟨w2.heap.size + 1 + 1, 3, none⟩ o').cell? ⟨b, off + k, none⟩ = some (.int .i64 y) ∧ TX (w6.setCell ⟨w2.heap.size + 1 + 1, 3, none⟩ o') (w2.heap.size + 1) ex ey (.slice none 0 0) (.slice none 0 0) (.slice (some ⟨w2.heap.size, 0, none⟩) 1 1) (.slice none 0 0) (.slice none 0 0) o' ∧ ClG (w6.setCell ⟨w2.heap.size + 1 + 1, 3, none⟩ o') (w2.heap.size + 1 + 2) o' (.slice none 0 0) (vs ++ [.slice (some ⟨wr.heap.size, 0, none⟩) 1 1]) (done ++ [[-y]]) [] ∧ Hid ((done ++ [[-y]]).length = k + 1) ∧ Hid (done ++ [[-y]] = flipM (xs.take (k + 1))) ∧ Below (w2.heap.size + 1) (w2.alloc (.cells #[.slice (some ⟨b, off, none⟩) m cb] 30)) (w6.setCell ⟨w2.heap.size + 1 + 1, 3, none⟩ o')) := fun o' w6 hown6 hap => by
            have hA : Below (w2.heap.size + 1 + 2) wr w6 := (hA2.mono hsz).trans hap.below
            have ht6 := HTR.out.below hA
            have hb6 : Below (w2.heap.size + 1) (w2.alloc (.cells #[.slice (some ⟨b, off, none⟩) m cb] 30)) w6 := HBR.out.trans (hA.mono (by omega))
            have hy6 := ((HDB.out _ hb6).cell (p := ⟨b, off + k, none⟩) hbl).trans hbc
            exact ⟨⟨ht6.b3, ht6.fb, hy6⟩, (set_off (.inl (by omega))).trans hy6, ht6.setB3 o', (HCL.out.one hA3 hap hown6 HLT.out).set _ _ _ (by omega), by unfold Hid; simp [HDL.out], HNX.out, hb6.setCell (by show w2.heap.size + 1 ≤ w2.heap.size + 1 + 1; omega) _⟩
          rw [HDL.out] at HF HOW
          have HS0 := Lib.hid (HSS.out _ (Below.refl _ _))
          have HS1 := Lib.hid (HSS.out _ (Below.refl _ _).drew)
          have HS2 := Lib.hid (HSS.out _ hA1)
          have HS3' := Lib.hid (HSS.out _ hA2)
          clear hbc hbl q0 hA1 hA2 hA3 hz1 HCL HNX HCEL
          go_wp2_with fail
          rw [← ldTu_eq]
          have hld := ldTu_eq
          obtain ⟨k0, k1⟩ := HS0.out
          obtain ⟨k2, k3⟩ := HS1.out
          obtain ⟨k4, k5⟩ := HS2.out
          obtain ⟨k6, k7⟩ := HS3'.out
          have HK0 := Lib.hid k1
          have HK1 := Lib.hid k3
          have HK2 := Lib.hid k5
          have HK3 := Lib.hid k7
          have k8 : ((wr.alloc (.cells #[.int .i64 (-y)] 3)).drew).cell? ⟨w2.heap.size + 1 + 1, 3, none⟩ = some (.slice ao k co) := k4
          have k9 : (((wr.alloc (.cells #[.int .i64 (-y)] 3)).alloc (.cells #[.slice (some ⟨wr.heap.size, 0, none⟩) 1 1] 30)).drew).cell? ⟨w2.heap.size + 1 + 1, 3, none⟩ = some (.slice ao k co) := k6
          clear k1 k3 k5 k7
          go_region_held3 (fun W => W.cell? ⟨b, off + k, none⟩ = some (.int .i64 y)) (first | (with_reducible exact HK1.out) | (with_reducible exact HK0.out) | (with_reducible exact HK2.out) | (with_reducible exact HK3.out) | (with_reducible exact HP6.out) | (with_reducible exact HP7.out) | (exact HK2.out) | (exact HK3.out) | (exact HK1.out)) (first
            | (refine step_ldTu rfl rfl _ (w2.heap.size + 1 + 1) 3 (.slice ao k co) rfl (by first | exact k0 | exact k2 | exact k4 | exact k6) ?_)
            | (refine step_appC 23 30 _ 1 24 Tryd.underlying23 infoInts rfl (by decide) (by decide) rfl _ _ rfl _ (w2.heap.size + 1 + 2) (.slice ao k co) k vs (some ⟨wr.heap.size + 1, 0, none⟩) 1 1 [.slice (some ⟨wr.heap.size, 0, none⟩) 1 1] HOW.out HSA.out (by omega) rfl (.inr ⟨_, rfl, HSL.out⟩) (sl_one _ _ _) rfl rfl ?_; intro o6 w6 hown6 hap6; obtain ⟨⟨e2, ef, e1⟩, hl7, hf6⟩ := HF.out o6 w6 hown6 hap6; have HP6 := Lib.hid e1; have HF6 := Lib.hid hf6; obtain ⟨a6, c6, rfl, _, _⟩ := own_shape hown6; have HP7 := Lib.hid hl7; clear hown6 hap6 hf6 hl7 e1))
          all_goals
            clear hld
            go_wp2_with fail
            go_roundw
          all_goals first
            | (obtain ⟨f1, f2, f3, f4, f5⟩ := HF6.out; exact ⟨k + 1, _, _, _, by omega, by go_num, f1, f2, f3, f4, f5⟩)
            | (simp [intOf]; omega)
        · have hkm : m = k := by omega
          subst hkm
          rename World => W3
          have HRG : Hid (∀ W, Below (w2.heap.size + 1) (w2.alloc (.cells #[.slice ab m cb] 30)) W → RowsAt W (some ⟨w2.heap.size, 0, none⟩) 1 [xs]) := fun W h => one_clause HXL.out HD2.out HB2.out.size h
          have HDF : Hid (done = flipM xs) := by unfold Hid; rw [HDN.out, List.take_of_length_le (by rw [HXL.out]; exact Nat.le_refl _)]
          have HTS0 : Hid (TS W3 W3 (w2.heap.size + 1) ex ey (.slice (some ⟨w2.heap.size, 0, none⟩) 1 1) (.slice ao m co) (.slice none 0 0) [] (.slice none 0 0) [] (.slice none 0 0) [] (.slice none 0 0) []) := ⟨HTR.out, R4.start _ _, Chg.refl _ _, hsz⟩
          clear HTR HDN HCEL
          go_wp2_with fail
          go_loopw [15] (fun i wr => ∃ (v : Nat) (g1 h1 g2 h2 : Value) (l1 l2 : List Int), 1 ≤ v ∧ v ≤ 7 ∧ i = .int .i64 v ∧ TS W3 wr (w2.heap.size + 1) ex ey (.slice (some ⟨w2.heap.size, 0, none⟩) 1 1) (.slice ao m co) g1 l1 h1 l1 g2 l2 h2 l2 ∧ Hid (l1 = sqT 0 (min (v - 1) F)) ∧ Hid (l2 = sqT F (v - 1 - F))) (fun i _ => 7 - (intOf i).toNat)
          case atStart => exact ⟨1, _, _, _, _, [], [], by omega, by omega, rfl, HTS0.out, by unfold Hid; simp [sqT], by unfold Hid; simp [sqT]⟩
          case round =>
            obtain ⟨v, g1, h1, g2, h2, l1, l2, hv1, hv7, rfl, hts, HL1, HL2⟩ := hrel
            have HTS := Lib.hid hts
            have z1 := hts.tx.a1
            have z2 := hts.tx.a2
            have hsW := hts.chg.size
            have b1 : l1.length ≤ 7 := by rw [HL1.out, sqT_len]; omega
            have b2 : l2.length ≤ 7 := by rw [HL2.out, sqT_len]; omega
            obtain ⟨p1, c1, rfl⟩ := own_shape3 hts.r4.o1
            obtain ⟨p2, c2, rfl⟩ := own_shape3 hts.r4.o2
            obtain ⟨p3, c3, rfl⟩ := own_shape3 hts.r4.o3
            obtain ⟨p4, c4, rfl⟩ := own_shape3 hts.r4.o4
            clear hts HTS0
            by_cases hlt : v ≤ 6
            · have hd : decide ((v : Int) ≤ 6) = true := decide_eq_true (by omega)
              have hd' : decide (v ≤ 6) = true := decide_eq_true hlt
              by_cases hs : v ≤ F
              · have hd1 : decide ((v : Int) ≤ (F : Int)) = true := decide_eq_true (by omega)
                have hd2 : decide (v ≤ F) = true := decide_eq_true hs
                have HSQ := Lib.hid (sq_in F v hv1 hs)
                clear z2
                go_wp2_with (first
                  | (at_builtin; refine wpList_app1 rfl _ _ rfl wr W3.heap.size _ _ l1 (v : Int) HTS.out.r4.o1 hsW (by omega) rfl rfl ?_; intro v6 w6 hown6 hap6; obtain ⟨t6, s6⟩ := HTS.out.g hown6 hap6; have x1 := t6.a1; have x2 := t6.fa; have y1 := s6.tx.b1; have hs6 := s6.chg.size; obtain ⟨a6, c6, rfl⟩ := own_shape3 hown6; have HT6 := Lib.hid s6; clear t6 s6 hown6 hap6)
                  | (at_builtin; refine wpList_app1 rfl _ _ rfl _ W3.heap.size _ _ l1 (v : Int) HT6.out.r4.o2 hs6 (by omega) rfl (by rw [sz_set]; rfl) ?_; intro v7 w7 hown7 hap7; obtain ⟨t7, s7⟩ := HT6.out.h hown7 hap7; have x3 := t7.b1; have x4 := t7.fb; obtain ⟨a7, c7, rfl⟩ := own_shape3 hown7; have HT7 := Lib.hid s7; clear t7 s7 hown7 hap7))
                go_roundw
                case measure => simp [intOf]; omega
                case rel => exact ⟨v + 1, _, _, _, _, _, _, by omega, by omega, by go_num, HT7.out, by unfold Hid; rw [HL1.out, HSQ.out.1]; rfl, by unfold Hid; rw [HL2.out, HSQ.out.2]; rfl⟩
              · have hd1 : decide ((v : Int) ≤ (F : Int)) = false := decide_eq_false (by omega)
                have hd2 : decide (v ≤ F) = false := decide_eq_false hs
                have HSQ := Lib.hid (sq_out F v hv1 (by omega))
                clear z1
                go_wp2_with (first
                  | (at_builtin; refine wpList_app1 rfl _ _ rfl wr W3.heap.size _ _ l2 (v : Int) HTS.out.r4.o3 hsW (by omega) rfl rfl ?_; intro v6 w6 hown6 hap6; obtain ⟨t6, s6⟩ := HTS.out.i hown6 hap6; have x1 := t6.a2; have x2 := t6.fa; have y1 := s6.tx.b2; have hs6 := s6.chg.size; obtain ⟨a6, c6, rfl⟩ := own_shape3 hown6; have HT6 := Lib.hid s6; clear t6 s6 hown6 hap6)
                  | (at_builtin; refine wpList_app1 rfl _ _ rfl _ W3.heap.size _ _ l2 (v : Int) HT6.out.r4.o4 hs6 (by omega) rfl (by rw [sz_set]; rfl) ?_; intro v7 w7 hown7 hap7; obtain ⟨t7, s7⟩ := HT6.out.j hown7 hap7; have x3 := t7.b2; have x4 := t7.fb; obtain ⟨a7, c7, rfl⟩ := own_shape3 hown7; have HT7 := Lib.hid s7; clear t7 s7 hown7 hap7))
                go_roundw
                case measure => simp [intOf]; omega
                case rel => exact ⟨v + 1, _, _, _, _, _, _, by omega, by omega, by go_num, HT7.out, by unfold Hid; rw [HL1.out, HSQ.out.2]; rfl, by unfold Hid; rw [HL2.out, HSQ.out.1]; rfl⟩
            · have hv6 : v = 7 := by omega
              subst hv6
              rename World => W4
              have hd : decide ((7 : Int) ≤ 6) = false := by decide
              have e71 : l1 = sqT 0 F := by rw [HL1.out, show min (7 - 1) F = F by omega]
              have e72 : l2 = sqT F (6 - F) := HL2.out
              subst e71
              subst e72
              have HMY := Lib.hid (value_flip xs HXS.out ex F (6 - F) (by omega))
              rw [HEY.out, ← HDF.out] at HMY
              have hsz4 := HTS.out.tx.sz
              have HTW : Hid (∀ W, Below W4.heap.size W4 W → TX W (w2.heap.size + 1) ex ey (.slice p1 (sqT 0 F).length c1) (.slice p3 (sqT F (6 - F)).length c3) (.slice (some ⟨w2.heap.size, 0, none⟩) 1 1) (.slice p2 (sqT 0 F).length c2) (.slice p4 (sqT F (6 - F)).length c4) (.slice ao m co)) := fun W h => HTS.out.tx.below (h.mono hsz4)
              have hB4 : Below (w2.heap.size + 1) (w2.alloc (.cells #[.slice ab m cb] 30)) W4 := HTS.out.chg.below HBR.out (by omega) (by intro i hi; simp at hi; omega)
              have HBW4 : Hid (∀ W, Below W4.heap.size W4 W → Below w.heap.size w W) := fun W h => HB1.out.trans ((HB2.out.trans ((HDB.out _ (hB4.trans (h.mono (by omega)))).mono HB2.out.size)).mono HB1.out.size)
              have HV1 : Hid (∀ W, Below W4.heap.size W4 W → Calls Tryd.prog 19 #[.agg #[.bool ex, .slice p1 (sqT 0 F).length c1, .slice p3 (sqT F (6 - F)).length c3, .slice (some ⟨w2.heap.size, 0, none⟩) 1 1]] W fun e w' => e = .returned (.tuple #[.bool (valueB [xs] ex F (6 - F)), .nilIface]) ∧ Below W.heap.size W w') := fun W h =>
                tu_value ex hF6 (own_row (own_keep HTS.out.r4.o1 h)) (own_row (own_keep HTS.out.r4.o3 h)) (HRG.out W (hB4.trans (h.mono (by omega)))) (by intro c hc; simp at hc; subst hc; exact HXS.out) (by intro c hc; simp at hc; subst hc; rw [HXL.out]; omega) (by simp)
              have HV2 : Hid (∀ W, Below W4.heap.size W4 W → Calls Tryd.prog 19 #[.agg #[.bool ey, .slice p2 (sqT 0 F).length c2, .slice p4 (sqT F (6 - F)).length c4, .slice ao m co]] W fun e w' => e = .returned (.tuple #[.bool (!valueB [xs] ex F (6 - F)), .nilIface]) ∧ Below W.heap.size W w') := fun W h => by
                have hc := (HCL.out.chg HTS.out.chg (by intro i hi; simp at hi; omega)).keep h
                obtain ⟨a', c', e', hr⟩ := hc.rows
                rw [HDL.out] at e'
                injection e' with e1 e2 e3
                subst e1; subst e3
                have := tu_value ey hF6 (own_row (own_keep HTS.out.r4.o2 h)) (own_row (own_keep HTS.out.r4.o4 h)) hr (by rw [HDF.out]; exact flip6 HXS.out) (by intro c hc; rw [HDF.out] at hc; unfold flipM at hc; obtain ⟨l, _, rfl⟩ := List.mem_map.1 hc; simp) (by rw [HDL.out]; omega)
                rw [HDL.out, HMY.out] at this
                exact this
              have HWI : Hid (∀ W kv, Below W4.heap.size W4 W → BoolRow W kv (valsI n F) → Calls Tryd.prog 20 #[.agg #[.bool ex, .slice p1 (sqT 0 F).length c1, .slice p3 (sqT F (6 - F)).length c3, .slice (some ⟨w2.heap.size, 0, none⟩) 1 1], kv] W fun e w' => e = .returned (.tuple #[.bool (winsB [xs] ex (valsI n F) (6 - F)), .nilIface]) ∧ Below W.heap.size W w') := fun W kv h hk =>
                tu_wins ex hF6 (own_row (own_keep HTS.out.r4.o1 h)) (own_row (own_keep HTS.out.r4.o3 h)) (HRG.out W (hB4.trans (h.mono (by omega)))) hk (valsI_len n F) (by intro c hc; simp at hc; subst hc; exact HXS.out) (by intro c hc; simp at hc; subst hc; rw [HXL.out]; omega) (by simp)
              have HAB : Hid (winsB [xs] ex (valsI n F) (6 - F) = true → valueB [xs] ex F (6 - F) = ex) := fun h => by
                have := wins_value [xs] ex (valsI n F) (6 - F) h
                rwa [valsI_len] at this
              have HVS := Lib.hid (fun W => values_any n F W (by omega))
              generalize valueB [xs] ex F (6 - F) = A at *
              generalize winsB [xs] ex (valsI n F) (6 - F) = B at *
              clear z1 z2 HL1 HL2 b1 b2 hB4 HMY HDF HRG HCL HDL HBR HDB HD2 HB2 HTS HEY hsW
              obtain ⟨x0, x1, x2, x3, _, _, _, _, _, _, _⟩ := HTW.out W4 (Below.refl _ _)
              go_wp2_with fail
              refine (HV1.out _ (Below.refl _ _)).mono ?_
              rintro e w5 ⟨rfl, hw5⟩
              clear x0 x1 x2 x3
              obtain ⟨_, _, _, _, y0, y1, y2, y3, _, _, _⟩ := HTW.out w5 hw5
              go_wp2_with fail
              refine (HV2.out _ hw5).mono ?_
              rintro e w6 ⟨rfl, hw6⟩
              have hb6 := hw5.trans (hw6.mono hw5.size)
              clear y0 y1 y2 y3
              obtain ⟨x0, x1, x2, x3, _, _, _, _, _, _, _⟩ := HTW.out w6 hb6
              go_wp2_with fail
              have HK : Hid (∀ W, Below W4.heap.size W4 W → W.cell? ⟨w2.heap.size + 1, 0, none⟩ = some (.bool ex) ∧ W.cell? ⟨w2.heap.size + 1, 1, none⟩ = some (.slice p1 (sqT 0 F).length c1) ∧ W.cell? ⟨w2.heap.size + 1, 2, none⟩ = some (.slice p3 (sqT F (6 - F)).length c3) ∧ W.cell? ⟨w2.heap.size + 1, 3, none⟩ = some (.slice (some ⟨w2.heap.size, 0, none⟩) 1 1)) := fun W h => ⟨(HTW.out W h).a0, (HTW.out W h).a1, (HTW.out W h).a2, (HTW.out W h).a3⟩
              have HK6 := Lib.hid (HK.out _ hb6)
              clear HV1 HV2 HTW
              go_region_held3 (fun W => W.cell? ⟨w2.heap.size + 1, 0, none⟩ = some (.bool ex) ∧ W.cell? ⟨w2.heap.size + 1, 1, none⟩ = some (.slice p1 (sqT 0 F).length c1) ∧ W.cell? ⟨w2.heap.size + 1, 2, none⟩ = some (.slice p3 (sqT F (6 - F)).length c3) ∧ W.cell? ⟨w2.heap.size + 1, 3, none⟩ = some (.slice (some ⟨w2.heap.size, 0, none⟩) 1 1)) (first | (with_reducible exact HK6.out) | (with_reducible exact HK7.out) | (with_reducible exact HK8.out) | (exact HK6.out) | (exact HK7.out) | (exact HK8.out)) (first
                | ((try go_simp); go_at_call 20; (first | refine (HWI.out _ _ hb7 HKV.out).mono ?_ | refine (HWI.out _ _ hb7.drew HKV.out).mono ?_); rintro e w8 ⟨rfl, hw8⟩; have hb8 : Below W4.heap.size W4 w8 := (by first | exact hb7.trans (hw8.mono hb7.size) | exact hb7.drew.trans (hw8.mono hb7.size)); have HK8 := Lib.hid (HK.out _ hb8))
                | ((try go_simp); go_at_call 21; refine (HVS.out _).mono ?_; rintro e w7 ⟨⟨kv, rfl, hkv⟩, hw7⟩; have hb7 : Below W4.heap.size W4 w7 := (by first | exact hb6.trans (hw7.mono hb6.size) | exact hb6.drew.trans (hw7.mono hb6.size)); have HK7 := Lib.hid (HK.out _ hb7); have HKV : Hid (BoolRow w7 kv (valsI n F)) := own_rowG hkv; clear hkv))
              have HEND := HBW4.out _ hb8
              clear HK HK6 HK7 HK8 HWI HVS hw8 hw7 hw6 hw5
              cases A <;> cases ex <;> cases B
              all_goals first
                | (exact absurd (HAB.out rfl) (by decide))
                | (go_wp2_with fail; go_ret; exact ⟨rfl, HEND⟩)
end Go.Proofs.YtcodmijphejfdaaDoor
