/- Plain facts: a step of reading at the k-th word ('just', 'gate', what stands behind). Nothing of the program. -/
import Derived.Test.YtcefeidfmnggaaaDoorRgr
namespace Go.Proofs.YtcefeidfmnggaaaDoor

section
variable {ws : List Wd} {j : Nat} {e n : Int}
theorem just_none (h : cntW ws j true = none) : justR n e (ws.drop j) = .bad (posL ws j e) := justR_bad (numb_none h)
theorem just_some {x : Int} (h : cntW ws j true = some x) : justR n e (ws.drop j) = if x = n then .got () (ws.drop (j + 1)) else .bad (posL ws j e) := by
  have hs := numb_some (most := n) (e := e) h
  by_cases hx : n < x
  · rw [if_pos hx] at hs
    rw [if_neg (by omega)]
    exact justR_bad hs
  · rw [if_neg hx] at hs
    by_cases hy : x = n
    · rw [if_pos hy]; exact justR_ok hs hy
    · rw [if_neg hy]; exact justR_other hs hy
theorem gate_1 (h : justR (2 * n) e (ws.drop j) = .bad (posL ws j e)) : gateR n e (ws.drop j) = .bad (posL ws j e) := by unfold gateR; rw [h]
theorem gate_2n (h : justR (2 * n) e (ws.drop j) = .got () (ws.drop (j + 1))) (h2 : cntW ws (j + 1) false = none) : gateR n e (ws.drop j) = .bad (posL ws (j + 1) e) := by unfold gateR; rw [h]; simp only; rw [numb_none h2]
theorem gate_2b {a : Int} (h : justR (2 * n) e (ws.drop j) = .got () (ws.drop (j + 1))) (h2 : cntW ws (j + 1) false = some a) (ha : 2 * n ≤ a) : gateR n e (ws.drop j) = .bad (posL ws (j + 1) e) := by unfold gateR; rw [h]; simp only; rw [numb_some h2, if_pos (by omega)]
theorem gate_3n {a : Int} (h : justR (2 * n) e (ws.drop j) = .got () (ws.drop (j + 1))) (h2 : cntW ws (j + 1) false = some a) (ha : ¬ 2 * n ≤ a) (h3 : cntW ws (j + 2) false = none) : gateR n e (ws.drop j) = .bad (posL ws (j + 2) e) := by unfold gateR; rw [h]; simp only; rw [numb_some h2, if_neg (by omega)]; simp only; rw [numb_none h3]
theorem gate_3b {a b : Int} (h : justR (2 * n) e (ws.drop j) = .got () (ws.drop (j + 1))) (h2 : cntW ws (j + 1) false = some a) (ha : ¬ 2 * n ≤ a) (h3 : cntW ws (j + 2) false = some b) (hb : a < b) : gateR n e (ws.drop j) = .bad (posL ws (j + 2) e) := by unfold gateR; rw [h]; simp only; rw [numb_some h2, if_neg (by omega)]; simp only; rw [numb_some h3, if_pos hb]
theorem gate_ok {a b : Int} (h : justR (2 * n) e (ws.drop j) = .got () (ws.drop (j + 1))) (h2 : cntW ws (j + 1) false = some a) (ha : ¬ 2 * n ≤ a) (h3 : cntW ws (j + 2) false = some b) (hb : ¬ a < b) : gateR n e (ws.drop j) = .got (a, b) (ws.drop (j + 3)) := by unfold gateR; rw [h]; simp only; rw [numb_some h2, if_neg (by omega)]; simp only; rw [numb_some h3, if_neg hb]
theorem tail_nil (h : ws.length ≤ j) : tailR (ws.drop j) = none := by rw [List.drop_eq_nil_of_le h]; rfl
theorem tail_word (h : j < ws.length) : tailR (ws.drop j) = if fst ws j = true ∧ (txt ws j).head? = some 99 then none else some (posL ws j e) := by
  rw [drop_consW ws j h, show posL ws j e = (ws.getD j wd0).2.1 from if_pos h]; rfl
end
end Go.Proofs.YtcefeidfmnggaaaDoor
