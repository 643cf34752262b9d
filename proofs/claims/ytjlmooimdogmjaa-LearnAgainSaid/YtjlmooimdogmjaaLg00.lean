/- Words on slices of ints in memory: what a slice reads as ('Row'), and that a row of the call's own ('ownsRow') stays owned while nothing that was there changes. Holds for every world; no conditions beyond those typed. · Plain functions on ints and lists (nothing of the program): a number's literal, a literal's variable, renaming. Holds for all ints and lists; no conditions beyond those typed. · Plain functions for lits.Check: the sum of lengths, the first clause with a literal that is not right, the fault. Holds for all lists; no conditions. · Plain functions on values of variables: what a literal is worth, setting, unsetting, what a clause and clauses are worth. Holds for all ints and lists; no conditions beyond those typed. · Contracts of the small helpers that only compute with ints: skolemworld.Number, skolemmake.Lit, lits.Var, lits.Is. Conditions: the moduli are positive and small, the ints are 64-bit ones. · Contracts of the helpers that only read slices of ints: skolemref.SameInts, skolemref.Has, skolemmake.Near. Conditions: the slices read as the lists named ('Row'). -/
import Derived.WalkKit
import Derived.Lib.Hide
import Derived.Lib.OwnBridge
import Derived.Test.YtjlmooimdogmjaaChecked
import Derived.IntWalk
import Derived.Deep.QuietTactic
import Derived.BigQuiet
import Derived.RegionTactic
import Derived.WalkSmall
import Derived.Deep.Draws
set_option linter.unusedVariables false
set_option linter.unusedSimpArgs false
namespace Go.Proofs.Ytjlmooimdogmjaa
open Go.RowKit

theorem ret_int {k : IntKind} {a b : Int} (h : a = b) : Ending.returned (.int k a) = .returned (.int k b) := by rw [h]
theorem ret_bool {a b : Bool} (h : a = b) : Ending.returned (.bool a) = .returned (.bool b) := by rw [h]

/-- The slice at a (len n, capacity c) reads as xs. -/
def RowAt (w : World) (a : Option Addr) (c : Nat) (xs : List Int) : Prop :=
  xs.length ≤ c ∧ c ≤ maxLen ∧ (xs.length = 0 ∨ ∃ b off, a = some ⟨b, off, none⟩ ∧ b < w.heap.size ∧ ∀ i, i < xs.length → w.cell? ⟨b, off + i, none⟩ = some (.int .i64 (xs.getD i 0)))

/-- The value v is a slice of ints that reads as xs. -/
def Row (w : World) (v : Value) (xs : List Int) : Prop := ∃ a c, v = .slice a xs.length c ∧ RowAt w a c xs

theorem RowAt.keep {w w' : World} {a : Option Addr} {c : Nat} {xs : List Int} (h : RowAt w a c xs) (hb : Below w.heap.size w w') : RowAt w' a c xs := by
  obtain ⟨h1, h2, h3⟩ := h
  refine ⟨h1, h2, ?_⟩
  rcases h3 with h3 | ⟨b, off, e, hlt, hc⟩
  · exact .inl h3
  · exact .inr ⟨b, off, e, Nat.lt_of_lt_of_le hlt hb.size, fun i hi => (hb.cell (p := ⟨b, off + i, none⟩) hlt).trans (hc i hi)⟩
theorem Row.keep {w w' : World} {v : Value} {xs : List Int} (h : Row w v xs) (hb : Below w.heap.size w w') : Row w' v xs := by
  obtain ⟨a, c, e, h⟩ := h
  exact ⟨a, c, e, h.keep hb⟩
theorem Row.nil (w : World) : Row w (.slice none 0 0) [] := ⟨none, 0, rfl, by simp, by unfold maxLen; omega, .inl rfl⟩

theorem rowAt_of_row {w : World} {a : Option Addr} {n c : Nat} {xs : List Int} (h : Row w (.slice a n c) xs) : xs.length = n ∧ RowAt w a c xs := by
  obtain ⟨a', c', e, h⟩ := h
  injection e with e1 e2 e3
  subst e1; subst e2; subst e3
  exact ⟨rfl, h⟩

theorem own_keep {w w' : World} {B : Nat} {e : TypeId} {size : Nat} {v : Value} {n : Nat} {xs : List Value} (h : w.ownsRow B e size v n xs) (hb : Below w.heap.size w w') : w'.ownsRow B e size v n xs := by
  obtain ⟨h1, h2⟩ := h
  refine ⟨h1, ?_⟩
  rcases h2 with h2 | ⟨g, cap, cur, hv, hg, hh, r⟩
  · exact .inl h2
  · have hlt : g < w.heap.size := by
      rcases Nat.lt_or_ge g w.heap.size with h' | h'
      · exact h'
      · rw [Array.getElem?_eq_none h'] at hh; cases hh
    exact .inr ⟨g, cap, cur, hv, hg, (hb.block g hlt).trans hh, r⟩
theorem own_base {w : World} {B B' : Nat} {e : TypeId} {size : Nat} {v : Value} {n : Nat} {xs : List Value} (h : w.ownsRow B e size v n xs) (hb : B' ≤ B) : w.ownsRow B' e size v n xs := by
  obtain ⟨h1, h2⟩ := h
  refine ⟨h1, ?_⟩
  rcases h2 with h2 | ⟨g, cap, cur, hv, hg, r⟩
  · exact .inl h2
  · exact .inr ⟨g, cap, cur, hv, Nat.le_trans hb hg, r⟩

/-- An owned row of ints reads as its ints. -/
theorem own_row {w : World} {B : Nat} {e : TypeId} {v : Value} {n : Nat} {xs : List Int} (h : w.ownsRow B e 1 v n (xs.map (Value.int .i64))) : Row w v xs := by
  have hl : xs.length = n := by simpa using h.1
  rcases h.2 with ⟨e0, e1⟩ | ⟨g, cap, cur, rfl, hb, hg, hn, hm, hs, ht⟩
  · subst e0; subst e1
    have : xs = [] := List.eq_nil_of_length_eq_zero hl
    subst this
    exact Row.nil w
  · obtain ⟨g', cap', e0, hb', hlt, hn', hm', hl', hH⟩ := Lib.holds_of_ownsRow h (by simp)
    injection e0 with e1 _ e3
    injection e1 with e1
    injection e1 with e1
    subst e1; subst e3; subst hl
    refine ⟨_, _, rfl, hn, hm, .inr ⟨g, 0, rfl, hlt, fun i hi => ?_⟩⟩
    have := (hH i (by simpa using hi)).1
    rw [this]
    simp [List.getD, hi]
theorem own_len {w : World} {B : Nat} {e : TypeId} {v : Value} {n : Nat} {xs : List Int} (h : w.ownsRow B e 1 v n (xs.map (Value.int .i64))) : xs.length = n := by simpa using h.1

theorem take_snoc (xs : List Int) (k : Nat) (h : k < xs.length) : xs.take (k + 1) = xs.take k ++ [xs.getD k 0] := by
  rw [List.take_succ_eq_append_getElem h]; simp [List.getD, h]

theorem bcell {W w1 : World} (hb : Below W.heap.size W w1) : (∀ b o, b < W.heap.size → w1.cell? ⟨b, o, none⟩ = W.cell? ⟨b, o, none⟩) ∧ (∀ b o, b < W.heap.size → w1.frozen? ⟨b, o, none⟩ = W.frozen? ⟨b, o, none⟩) :=
  ⟨fun b o h => hb.cell (p := ⟨b, o, none⟩) h, fun b o h => hb.frozen (p := ⟨b, o, none⟩) h⟩

theorem below_call {B : Nat} {w W wI : World} (h : Below B w W) (hB : B ≤ W.heap.size) (hI : Below W.heap.size W wI) : Below B w wI := h.trans (hI.mono hB)
/-- Behind an append of one int to a row of the call's own. -/
theorem grow_one {B : Nat} {w wr w1 : World} {v : Value} {o : Obj} (hb : Below B w wr) (hB : B ≤ wr.heap.size) (hv : ∀ k, v.ownBlock = some k → B ≤ k) (hg : (wr.alloc o).grownBy w1 v.ownBlock) : Below B w w1 :=
  (hb.alloc hB o).grown hg (by simp; omega) hv
end Go.Proofs.Ytjlmooimdogmjaa

namespace Go.Proofs.Ytjlmooimdogmjaa

/-- The literal of a number, of v variables. -/
def litOf (n v : Int) : Int := if n % (2 * v) < v then n % (2 * v) + 1 else v - n % (2 * v) - 1
theorem litOf_bd (n v : Int) (hv : 0 < v) : litOf n v ≠ 0 ∧ -v ≤ litOf n v ∧ litOf n v ≤ v := by
  have h1 := Int.emod_nonneg n (show 2 * v ≠ 0 by omega)
  have h2 := Int.emod_lt_of_pos n (show 0 < 2 * v by omega)
  unfold litOf; split <;> omega
/-- A literal without its sign. -/
def absI (l : Int) : Int := if l < 0 then -l else l
theorem absI_pos (l : Int) : 0 ≤ absI l := by unfold absI; split <;> omega
/-- One literal renamed. -/
def ren1 (by' : List Int) (l : Int) : Int := if l < 0 then -(by'.getD (absI l).toNat 0) else by'.getD (absI l).toNat 0
/-- It has a variable that has a name. -/
def renOk (by' : List Int) (l : Int) : Bool := decide (1 ≤ absI l) && (decide (absI l ≤ by'.length - 1) && !(by'.getD (absI l).toNat 0 == 0))
end Go.Proofs.Ytjlmooimdogmjaa

namespace Go.Proofs.Ytjlmooimdogmjaa
open Go.RowKit

/-- A slice of slices of ints that reads as these lists. -/
def RowsAt (w : World) (a : Option Addr) (c : Nat) (xss : List (List Int)) : Prop :=
  xss.length ≤ c ∧ c ≤ maxLen ∧ (xss.length = 0 ∨ ∃ b off, a = some ⟨b, off, none⟩ ∧ b < w.heap.size ∧ ∀ i, i < xss.length → ∃ v, w.cell? ⟨b, off + i, none⟩ = some v ∧ Row w v (xss.getD i []))
theorem RowsAt.keep {w w' : World} {a : Option Addr} {c : Nat} {xss : List (List Int)} (h : RowsAt w a c xss) (hb : Below w.heap.size w w') : RowsAt w' a c xss := by
  obtain ⟨h1, h2, h3⟩ := h
  refine ⟨h1, h2, ?_⟩
  rcases h3 with h3 | ⟨b, off, e, hlt, hc⟩
  · exact .inl h3
  · refine .inr ⟨b, off, e, Nat.lt_of_lt_of_le hlt hb.size, fun i hi => ?_⟩
    obtain ⟨v, hv, hr⟩ := hc i hi
    exact ⟨v, (hb.cell (p := ⟨b, off + i, none⟩) hlt).trans hv, hr.keep hb⟩

/-- The lengths of the first k lists, in all. -/
def sumTo (xss : List (List Int)) (k : Nat) : Nat := ((xss.take k).map List.length).sum
theorem sumTo_succ (xss : List (List Int)) (k : Nat) (h : k < xss.length) : sumTo xss (k + 1) = sumTo xss k + (xss.getD k []).length := by
  unfold sumTo
  rw [List.take_succ_eq_append_getElem h, List.map_append, List.sum_append]
  simp [List.getD, h]
theorem sumTo_mono (xss : List (List Int)) (k m : Nat) (h : k ≤ m) : sumTo xss k ≤ sumTo xss m := by
  induction m with
  | zero => have : k = 0 := by omega
            subst this; exact Nat.le_refl _
  | succ m ih =>
    by_cases e : k = m + 1
    · subst e; exact Nat.le_refl _
    · refine Nat.le_trans (ih (by omega)) ?_
      by_cases hm : m < xss.length
      · rw [sumTo_succ _ _ hm]; omega
      · unfold sumTo
        rw [List.take_of_length_le (by omega), List.take_of_length_le (by omega)]
        exact Nat.le_refl _
/-- A literal that is right for so many variables. -/
def isB (vars l : Int) : Bool := decide (1 ≤ absI l) && decide (absI l ≤ vars)
/-- No list has a literal that is not right. -/
def allIs (vars : Int) (xss : List (List Int)) : Prop := ∀ xs ∈ xss, ∀ l ∈ xs, isB vars l = true
/-- The k-th list is the first with one. -/
def firstBad (vars : Int) (xss : List (List Int)) (k : Nat) : Prop := k < xss.length ∧ (∀ j, j < k → ∀ l ∈ xss.getD j [], isB vars l = true) ∧ ∃ l ∈ xss.getD k [], isB vars l = false
/-- Too much of it. -/
def tooMuch (vars : Int) (xss : List (List Int)) : Prop := vars < 0 ∨ 4000 < vars ∨ 20000 < xss.length ∨ 80000 < sumTo xss xss.length
/-- The fault that Check tells. -/
def CheckF (vars : Int) (xss : List (List Int)) (c : Int) (p : Bool) (k : Int) : Prop :=
  (tooMuch vars xss ∧ c = 102 ∧ p = false ∧ k = 0) ∨ (¬ tooMuch vars xss ∧ ∃ i : Nat, firstBad vars xss i ∧ c = 104 ∧ p = true ∧ k = i) ∨ (¬ tooMuch vars xss ∧ allIs vars xss ∧ c = 0 ∧ p = false ∧ k = 0)
end Go.Proofs.Ytjlmooimdogmjaa

namespace Go.Proofs.Ytjlmooimdogmjaa
open Go.RowKit

/-- The opposite of a value. -/
def opp (x : Int) : Int := if x = 1 then 2 else if x = 2 then 1 else 0
/-- Its place. -/
def plc (l : Int) : Nat := (absI l).toNat
/-- The literal is right for these values. -/
def rightB (V : List Int) (l : Int) : Bool := decide (1 ≤ plc l) && decide (plc l < V.length)
/-- What a literal is worth. -/
def valL (V : List Int) (l : Int) : Int := if rightB V l = true then (if 0 < l then V.getD (plc l) 0 else opp (V.getD (plc l) 0)) else 0
def setOk (V : List Int) (l : Int) : Bool := rightB V l && !(valL V l == 2)
def setV (V : List Int) (l : Int) : List Int := if setOk V l = true then V.set (plc l) (if 0 < l then 1 else 2) else V
def unsetV (V : List Int) (v : Int) : List Int := if 0 < v ∧ v.toNat < V.length then V.set v.toNat 0 else V
/-- Values: each not known, true or false; place 0 nobody's. -/
structure Vals (V : List Int) : Prop where
  pos : 0 < V.length
  len : V.length ≤ 4001
  zero : V.getD 0 0 = 0
  three : ∀ i, V.getD i 0 = 0 ∨ V.getD i 0 = 1 ∨ V.getD i 0 = 2

theorem getD_set (V : List Int) (m : Nat) (x : Int) (i : Nat) : (V.set m x).getD i 0 = if m = i ∧ i < V.length then x else V.getD i 0 := by
  simp only [List.getD, List.getElem?_set]
  by_cases h1 : m = i
  · subst h1
    by_cases h2 : m < V.length
    · simp [h2]
    · simp [h2]
  · simp [h1]
theorem Vals.set {V : List Int} (h : Vals V) (m : Nat) (x : Int) (h0 : m = 0 → x = 0) (hx : x = 0 ∨ x = 1 ∨ x = 2) : Vals (V.set m x) := by
  refine ⟨by simpa using h.pos, by simpa using h.len, ?_, fun i => ?_⟩
  · rw [getD_set]; split
    · rename_i hh; exact h0 hh.1
    · exact h.zero
  · rw [getD_set]; split
    · exact hx
    · exact h.three i
theorem rightB_iff (V : List Int) (l : Int) : rightB V l = true ↔ 1 ≤ plc l ∧ plc l < V.length := by unfold rightB; simp
theorem Vals.setV {V : List Int} (h : Vals V) (l : Int) : Vals (setV V l) := by
  unfold Proofs.Ytjlmooimdogmjaa.setV
  split
  · rename_i hs
    have hr : rightB V l = true := by unfold setOk at hs; simp at hs; exact hs.1
    rw [rightB_iff] at hr
    exact h.set _ _ (fun e => by omega) (by split <;> simp)
  · exact h
theorem Vals.unsetV {V : List Int} (h : Vals V) (l : Int) : Vals (unsetV V l) := by
  unfold Proofs.Ytjlmooimdogmjaa.unsetV
  split
  · exact h.set _ _ (fun _ => rfl) (.inl rfl)
  · exact h
theorem setV_len (V : List Int) (l : Int) : (setV V l).length = V.length := by unfold setV; split <;> simp
theorem unsetV_len (V : List Int) (l : Int) : (unsetV V l).length = V.length := by unfold unsetV; split <;> simp
theorem opp_three {x : Int} (h : x = 0 ∨ x = 1 ∨ x = 2) : opp x = 0 ∨ opp x = 1 ∨ opp x = 2 := by unfold opp; rcases h with h | h | h <;> simp [h]
theorem Vals.val {V : List Int} (h : Vals V) (l : Int) : valL V l = 0 ∨ valL V l = 1 ∨ valL V l = 2 := by
  unfold valL
  split
  · split
    · exact h.three _
    · exact opp_three (h.three _)
  · exact .inl rfl
/-- As the reference has it. -/
theorem opp_sub {x : Int} (h : x = 0 ∨ x = 1 ∨ x = 2) : opp x = if x = 0 then 0 else 3 - x := by unfold opp; rcases h with h | h | h <;> simp [h]

/-- All values of n variables unknown. -/
def newV (n : Int) : List Int := List.replicate (min (max n 0) 4000 + 1).toNat 0
theorem newV_len (n : Int) : (newV n).length = (min (max n 0) 4000 + 1).toNat := by simp [newV]
theorem newV_get (n : Int) (i : Nat) : (newV n).getD i 0 = 0 := by
  simp only [newV, List.getD, List.getElem?_replicate]
  split <;> rfl
theorem newV_vals (n : Int) : Vals (newV n) := by
  refine ⟨?_, ?_, newV_get n 0, fun i => .inl (newV_get n i)⟩
  · rw [newV_len]; omega
  · rw [newV_len]; omega
end Go.Proofs.Ytjlmooimdogmjaa

namespace Go.Proofs.Ytjlmooimdogmjaa
open Go.RowKit

set_option maxHeartbeats 400000 in
theorem number_any (n m : Int) (w : World) (hm : 0 < m) (hm2 : m ≤ 4000000000) (h1 : -9223372036854775808 ≤ n) (h2 : n ≤ 9223372036854775807) :
    Calls Try.prog 26 #[.int .i64 n, .int .i64 m] w fun e w' => e = .returned (.int .i64 (n % m)) ∧ w = w' := by
  have t1 := Int.tmod_lt_of_pos n hm
  have t2 : -m < n.tmod m := Int.lt_tmod_of_pos n hm
  have t3 : n.tmod m < 0 → n.tmod m + m = n % m := fun h => by
    rw [Int.emod_eq_tmod, if_neg]
    · simp; omega
    · intro h'
      rcases h' with h' | h'
      · have := Int.tmod_nonneg m h'; omega
      · rw [Int.tmod_eq_zero_of_dvd h'] at h; omega
  have t4 : ¬ n.tmod m < 0 → n.tmod m = n % m := fun h => by
    rw [Int.emod_eq_tmod, if_pos]
    · simp
    · by_cases h0 : 0 ≤ n
      · exact .inl h0
      · right
        have hneg := Int.tmod_nonneg (a := -n) m (by omega)
        rw [Int.neg_tmod] at hneg
        have h0' : n.tmod m = 0 := by omega
        exact Int.dvd_of_tmod_eq_zero h0'
  have H3 := Lib.hid t3; clear t3
  have H4 := Lib.hid t4; clear t4
  by_cases hneg : n.tmod m < 0
  · go_enter Try.func26, Try.ntmps26
    go_wp2
    go_ret
    exact ⟨ret_int (H3.out hneg), rfl⟩
  · go_enter Try.func26, Try.ntmps26
    go_wp2
    go_ret
    exact ⟨ret_int (H4.out hneg), rfl⟩

set_option maxHeartbeats 400000 in
theorem lit_any (n v : Int) (w : World) (hv : 0 < v) (hv2 : v ≤ 1000) (h1 : -9223372036854775808 ≤ n) (h2 : n ≤ 9223372036854775807) :
    Calls Try.prog 23 #[.int .i64 n, .int .i64 v] w fun e w' => e = .returned (.int .i64 (litOf n v)) ∧ w = w' := by
  have m1 := Int.emod_nonneg n (show 2 * v ≠ 0 by omega)
  have m2 := Int.emod_lt_of_pos n (show 0 < 2 * v by omega)
  have H := Lib.hid (number_any n (2 * v) w (by omega) (by omega) h1 h2)
  have HL := Lib.hid (show litOf n v = if n % (2 * v) < v then n % (2 * v) + 1 else v - n % (2 * v) - 1 from rfl)
  generalize litOf n v = r at HL ⊢
  by_cases hlt : n % (2 * v) < v
  all_goals
    generalize hk : n % (2 * v) = k at *
    have HK := Lib.hid hk; clear hk
    go_enter Try.func23, Try.ntmps23
    go_wp2_with (go_at_call 26; refine H.out.mono ?_; rintro e w' ⟨rfl, rfl⟩)
    go_ret
    exact ⟨ret_int (by rw [HL.out]; first | rw [if_pos (by omega)] | rw [if_neg (by omega)]), rfl⟩

set_option maxHeartbeats 400000 in
theorem var_any (l : Int) (w : World) (h1 : -9223372036854775807 ≤ l) (h2 : l ≤ 9223372036854775807) :
    Calls Try.prog 41 #[.int .i64 l] w fun e w' => e = .returned (.int .i64 (absI l)) ∧ w = w' := by
  unfold absI
  by_cases hlt : l < 0
  · go_enter Try.func41, Try.ntmps41
    go_wp2
    go_ret
    exact ⟨rfl, rfl⟩
  · go_enter Try.func41, Try.ntmps41
    go_wp2
    go_ret
    exact ⟨rfl, rfl⟩

set_option maxHeartbeats 400000 in
theorem is_any (l v : Int) (w : World) (h1 : -9223372036854775807 ≤ l) (h2 : l ≤ 9223372036854775807) :
    Calls Try.prog 66 #[.int .i64 l, .int .i64 v] w fun e w' => e = .returned (.bool (decide (1 ≤ absI l) && decide (absI l ≤ v))) ∧ w = w' := by
  have H := Lib.hid (var_any l w h1 h2)
  generalize absI l = a at *
  by_cases hlt : 1 ≤ a
  · go_enter Try.func66, Try.ntmps66
    go_wp2_with (go_at_call 41; refine H.out.mono ?_; rintro e w' ⟨rfl, rfl⟩)
    go_ret
    exact ⟨ret_bool (by simp [hlt]), rfl⟩
  · have hd : decide (1 ≤ a) = false := by simpa using hlt
    go_enter Try.func66, Try.ntmps66
    go_wp2_with (go_at_call 41; refine H.out.mono ?_; rintro e w' ⟨rfl, rfl⟩)
    go_ret
    exact ⟨ret_bool (by simp; omega), rfl⟩

end Go.Proofs.Ytjlmooimdogmjaa

namespace Go.Proofs.Ytjlmooimdogmjaa
open Go.RowKit

theorem below_draws {w w' : World} (h : ∃ n, w' = w.drewN n) : Below w.heap.size w w' := by
  obtain ⟨n, rfl⟩ := h
  exact below_drewN (Below.refl _ _) n

theorem getD_ext {xs ys : List Int} (h : xs.length = ys.length) (k : ∀ j, j < xs.length → xs.getD j 0 = ys.getD j 0) : xs = ys := by
  apply List.ext_getElem h
  intro i h1 h2
  have := k i h1
  simpa [List.getD, h1, h2] using this

set_option maxHeartbeats 1000000 in
theorem has_any (v : Value) (xs : List Int) (x : Int) (w : World) (hv : Row w v xs) :
    Calls Try.prog 14 #[v, .int .i64 x] w fun e w' => e = .returned (.bool (decide (x ∈ xs))) ∧ w = w' := by
  obtain ⟨a, c, rfl, hxc, hcm, hx⟩ := hv
  unfold maxLen at hcm
  by_cases h0 : xs.length = 0
  · have hxe : xs = [] := List.eq_nil_of_length_eq_zero h0
    subst hxe
    clear hx h0
    go_enter Try.func14, Try.ntmps14
    go_wp2
    refine wp_loop_rounds 1 ?_
    rw [rounds_succ]
    go_wp2
    go_ret
    exact ⟨by simp, rfl⟩
  · obtain ⟨b, off, rfl, hb, hx⟩ := hx.resolve_left h0
    have HX := Lib.hid hx; clear hx
    generalize hn : xs.length = n at *
    have HN := Lib.hid hn; clear hn
    go_enter Try.func14, Try.ntmps14
    go_wp2
    go_loop [5] (fun i => ∃ k : Nat, k ≤ n ∧ i = .int .i64 k ∧ Hid (∀ j, j < k → xs.getD j 0 ≠ x)) (fun i => n - (intOf i).toNat)
    case atStart => exact ⟨0, Nat.zero_le _, rfl, fun j hj => absurd hj (Nat.not_lt_zero _)⟩
    case round =>
      obtain ⟨k, hk, rfl, HQ⟩ := hrel
      by_cases hlt : k < n
      · have g1 : w.cell? ⟨b, off + k, none⟩ = some (.int .i64 (xs.getD k 0)) := HX.out k hlt
        generalize hxk : xs.getD k 0 = y at g1
        have HXY := Lib.hid hxk; clear hxk
        by_cases he : y = x
        · subst he
          go_wp2
          go_ret
          refine ⟨ret_bool ?_, rfl⟩
          have hm : y ∈ xs := by
            have hk' : k < xs.length := by rw [HN.out]; exact hlt
            rw [← HXY.out]; simp [List.getD, hk']
          simp [hm]
        · have heb : (y == x) = false := by simp [he]
          go_wp2
          go_round
          case rel =>
            refine ⟨k + 1, by omega, by go_num, fun j hj => ?_⟩
            by_cases e : j = k
            · rw [e, HXY.out]; exact he
            · exact HQ.out j (by omega)
          case measure => simp [intOf]; omega
      · have hkn : k = n := by omega
        have hall : x ∉ xs := fun hm => by
          obtain ⟨j, hj, e⟩ := List.getElem_of_mem hm
          exact HQ.out j (by rw [HN.out] at hj; omega) (by simpa [List.getD, hj] using e)
        have HA := Lib.hid hall; clear hall
        subst hkn
        go_wp2
        go_ret
        exact ⟨ret_bool (by simp [HA.out]), rfl⟩

end Go.Proofs.Ytjlmooimdogmjaa
