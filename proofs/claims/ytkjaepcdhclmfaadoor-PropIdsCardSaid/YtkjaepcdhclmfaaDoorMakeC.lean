/- Contracts of skolemmake.Clauses and CNF: clauses of right literals, not too many, in memory of the call's own. Conditions: the slice reads as 64-bit ints and is short; 1 to 100 variables. -/
import Derived.Test.YtkjaepcdhclmfaaDoorClIG
import Derived.Test.YtkjaepcdhclmfaaDoorHeadP
import Derived.Test.YtkjaepcdhclmfaaDoorSmall
import Derived.Deep.Light
import Derived.Deep.RegionWith
namespace Go.Proofs.YtkjaepcdhclmfaaDoor
open Go.RowKit

set_option maxHeartbeats 400000 in
theorem number_big (n : Int) (w : World) (h1 : -9223372036854775808 ≤ n) (h2 : n ≤ 9223372036854775807) :
    Calls Tryd.prog 9 #[.int .i64 n, .int .i64 1099511627776] w fun e w' => e = .returned (.int .i64 (n % 1099511627776)) ∧ w = w' := by
  have t1 := Int.tmod_lt_of_pos n (show (0 : Int) < 1099511627776 by omega)
  have t2 : -1099511627776 < n.tmod 1099511627776 := Int.lt_tmod_of_pos n (by omega)
  have t3 : n.tmod 1099511627776 < 0 → n.tmod 1099511627776 + 1099511627776 = n % 1099511627776 := fun h => by
    rw [Int.emod_eq_tmod, if_neg]
    · simp
    · intro h'
      rcases h' with h' | h'
      · have := Int.tmod_nonneg 1099511627776 h'; omega
      · rw [Int.tmod_eq_zero_of_dvd h'] at h; omega
  have t4 : ¬ n.tmod 1099511627776 < 0 → n.tmod 1099511627776 = n % 1099511627776 := fun h => by
    rw [Int.emod_eq_tmod, if_pos]
    · simp
    · by_cases h0 : 0 ≤ n
      · exact .inl h0
      · right
        have hneg := Int.tmod_nonneg (a := -n) 1099511627776 (by omega)
        rw [Int.neg_tmod] at hneg
        have h0' : n.tmod 1099511627776 = 0 := by omega
        exact Int.dvd_of_tmod_eq_zero h0'
  have H3 := Lib.hid t3; clear t3
  have H4 := Lib.hid t4; clear t4
  by_cases hneg : n.tmod 1099511627776 < 0
  · go_enter Tryd.func9, Tryd.ntmps9
    go_wp2
    go_ret
    exact ⟨ret_int (H3.out hneg), rfl⟩
  · go_enter Tryd.func9, Tryd.ntmps9
    go_wp2
    go_ret
    exact ⟨ret_int (H4.out hneg), rfl⟩

/-- The clauses made of k numbers. -/
structure Good (m : Int) (dn : List (List Int)) (cur : List Int) (k : Nat) : Prop where
  l1 : ∀ c ∈ dn, ∀ l ∈ c, l ≠ 0 ∧ isF l m = true
  l2 : ∀ l ∈ cur, l ≠ 0 ∧ isF l m = true
  sum : (dn.map List.length).sum + cur.length ≤ k
  len : dn.length + (if cur = [] then 0 else 1) ≤ k
theorem litOf_good (n m : Int) (h : 1 ≤ m) : litOf n m ≠ 0 ∧ isF (litOf n m) m = true := by
  have h1 := litOf_bd n m (by omega)
  unfold isF
  simp
  exact ⟨h1.1, h1.2.2, h1.2.1⟩
theorem Good.start (m : Int) : Good m [] [] 0 := ⟨fun _ h => (by cases h), fun _ h => (by cases h), by simp, by simp⟩
theorem Good.add {m : Int} {dn : List (List Int)} {cur : List Int} {k : Nat} (h : Good m dn cur k) (n : Int) (hm : 1 ≤ m) : Good m dn (cur ++ [litOf n m]) (k + 1) := by
  refine ⟨h.l1, fun l hl => ?_, by have := h.sum; simp; omega, by have := h.len; simp; split at this <;> omega⟩
  rw [List.mem_append] at hl
  rcases hl with hl | hl
  · exact h.l2 l hl
  · have e : l = litOf n m := by simpa using hl
    subst e
    exact litOf_good n m hm
theorem Good.push {m : Int} {dn : List (List Int)} {cur : List Int} {k : Nat} (h : Good m dn cur k) (hc : cur ≠ []) : Good m (dn ++ [cur]) [] k := by
  refine ⟨fun c hc => ?_, fun _ h => (by cases h), by have := h.sum; simp; omega, by have := h.len; rw [if_neg hc] at this; simp; omega⟩
  rw [List.mem_append] at hc
  rcases hc with hc | hc
  · exact h.l1 c hc
  · have e : c = cur := by simpa using hc
    subst e
    exact h.l2
theorem Good.last {m : Int} {dn : List (List Int)} {k : Nat} (h : Good m dn [] k) : (∀ c ∈ dn, ∀ l ∈ c, l ≠ 0 ∧ isF l m = true) ∧ (dn.map List.length).sum ≤ k ∧ dn.length ≤ k := ⟨h.l1, by have := h.sum; simp at this; omega, by have := h.len; simp at this; omega⟩
theorem Good.last' {m : Int} {dn : List (List Int)} {k n : Nat} (h : Good m dn [] k) (hk : k ≤ n) : (∀ c ∈ dn, ∀ l ∈ c, l ≠ 0 ∧ isF l m = true) ∧ (dn.map List.length).sum ≤ n ∧ dn.length ≤ n := ⟨h.last.1, by have := h.last.2.1; omega, by have := h.last.2.2; omega⟩
def MakePost (w : World) (n : Nat) (m : Int) (e : Ending) (w' : World) : Prop :=
  (∃ v xss, e = .returned v ∧ CRow w' w.heap.size v xss ∧ (∀ c ∈ xss, ∀ l ∈ c, l ≠ 0 ∧ isF l m = true) ∧ (xss.map List.length).sum ≤ n ∧ xss.length ≤ n) ∧ Below w.heap.size w w'

end Go.Proofs.YtkjaepcdhclmfaaDoor
