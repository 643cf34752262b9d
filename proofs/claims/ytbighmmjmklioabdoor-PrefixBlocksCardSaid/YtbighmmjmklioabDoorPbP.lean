/- Three blocks of at most three variables each, kinds turning: what they come to as a game, as plain data, all 128 gone through. No conditions. -/
import Derived.Test.YtbighmmjmklioabDoorNormZ
namespace Go.Proofs.YtbighmmjmklioabDoor
open Go.RowKit

def sqI (u m : Nat) : List Int := (List.range m).map fun j => ((u + j + 1 : Nat) : Int)
theorem sqI_len (u m : Nat) : (sqI u m).length = m := by simp [sqI]
theorem sqI_snoc (u m : Nat) : sqI u (m + 1) = sqI u m ++ [((u + m : Nat) : Int) + 1] := by
  unfold sqI
  rw [List.range_succ, List.map_append]
  simp
def kdB (f : Bool) (k : Nat) : Bool := if k % 2 = 0 then f else !f
theorem kdB_succ (f : Bool) (k : Nat) : kdB f (k + 1) = !kdB f k := by
  unfold kdB
  by_cases h : k % 2 = 0
  · rw [if_pos h, if_neg (by omega)]
  · rw [if_neg h, if_pos (by omega), Bool.not_not]
def totB (ns : List Nat) (k : Nat) : Nat := (ns.take k).sum
theorem totB_succ (ns : List Nat) (k : Nat) (h : k < ns.length) : totB ns (k + 1) = totB ns k + ns.getD k 0 := by
  unfold totB
  rw [List.take_succ_eq_append_getElem h, List.sum_append]; simp [List.getD, h]
def bsB (f : Bool) (ns : List Nat) : Nat → List Blk
  | 0 => []
  | k + 1 => bsB f ns k ++ [(kdB f k, sqI (totB ns k) (ns.getD k 0))]
theorem bsB_len (f : Bool) (ns : List Nat) : ∀ k, (bsB f ns k).length = k
  | 0 => rfl
  | k + 1 => by unfold bsB; rw [List.length_append, bsB_len f ns k]; rfl
/-- What the law says of these. -/
def pbOk (f : Bool) (a b c : Nat) : Bool :=
  let bs := bsB f [a, b, c] 3
  let ms := gameL bs []
  (blksBad 12 0 [] bs).isNone && (varsB bs).all (fun v => decide (1 ≤ v) && decide (v ≤ 9)) && decide ((varsB bs).length ≤ 9) &&
  (if 0 < a ∧ 0 < b ∧ 0 < c then decide (2 < ms.length) else
    decide (ms.length ≤ 2) && decide ((outG ms).length + (inG ms).length = a + b + c) &&
    (if b = 0 then decide ((inG ms).length = 0) && (exG ms == (f || decide (a + c = 0)))
     else if a = 0 then (exG ms == !f) && decide ((outG ms).length = b) && decide ((inG ms).length = c)
     else (exG ms == f) && decide ((outG ms).length = a) && decide ((inG ms).length = b)))
def pbAll : Bool := [true, false].all fun f => (List.range 4).all fun a => (List.range 4).all fun b => (List.range 4).all fun c => pbOk f a b c
theorem pbAll_yes : pbAll = true := by kernel_rfl
theorem pb_one (f : Bool) (a b c : Nat) (ha : a < 4) (hb : b < 4) (hc : c < 4) : pbOk f a b c = true := by
  have h := pbAll_yes
  unfold pbAll at h
  have hf : f ∈ [true, false] := by cases f <;> simp
  exact List.all_eq_true.1 (List.all_eq_true.1 (List.all_eq_true.1 (List.all_eq_true.1 h f hf) a (List.mem_range.2 ha)) b (List.mem_range.2 hb)) c (List.mem_range.2 hc)
structure PbSay (f : Bool) (a b c : Nat) : Prop where
  chk : CheckFF 12 (bsB f [a, b, c] 3) [] 0 false 0
  bd : ∀ v ∈ varsB (bsB f [a, b, c] 3), 1 ≤ v ∧ v ≤ 9
  len : (varsB (bsB f [a, b, c] 3)).length ≤ 9
  many : 0 < a → 0 < b → 0 < c → 2 < (gameL (bsB f [a, b, c] 3) []).length
  few : ¬ (0 < a ∧ 0 < b ∧ 0 < c) → (gameL (bsB f [a, b, c] 3) []).length ≤ 2 ∧ (outG (gameL (bsB f [a, b, c] 3) [])).length + (inG (gameL (bsB f [a, b, c] 3) [])).length = a + b + c ∧
    (b = 0 → (inG (gameL (bsB f [a, b, c] 3) [])).length = 0 ∧ exG (gameL (bsB f [a, b, c] 3) []) = (f || decide (a + c = 0))) ∧
    (b ≠ 0 → a = 0 → exG (gameL (bsB f [a, b, c] 3) []) = (!f) ∧ (outG (gameL (bsB f [a, b, c] 3) [])).length = b ∧ (inG (gameL (bsB f [a, b, c] 3) [])).length = c) ∧
    (b ≠ 0 → a ≠ 0 → exG (gameL (bsB f [a, b, c] 3) []) = f ∧ (outG (gameL (bsB f [a, b, c] 3) [])).length = a ∧ (inG (gameL (bsB f [a, b, c] 3) [])).length = b)
theorem pb_say (f : Bool) (a b c : Nat) (ha : a < 4) (hb : b < 4) (hc : c < 4) : PbSay f a b c := by
  have h := pb_one f a b c ha hb hc
  unfold pbOk at h
  simp only [Bool.and_eq_true] at h
  obtain ⟨⟨⟨h1, h2⟩, h3⟩, h4⟩ := h
  refine ⟨.inr ⟨.inr (.inr ⟨?_, fun xs hx => (by cases hx), rfl, rfl, rfl⟩), .inl ⟨by simpa using h1, rfl, rfl, rfl⟩⟩, fun v hv => ?_, of_decide_eq_true h3, fun x1 x2 x3 => ?_, fun hn => ?_⟩
  · unfold tooMuch sumTo
    rintro (h | h | h | h)
    · omega
    · omega
    · simp at h
    · simp at h
  · have := List.all_eq_true.1 h2 v hv
    simpa using this
  · rw [if_pos ⟨x1, x2, x3⟩] at h4
    exact of_decide_eq_true h4
  · rw [if_neg hn] at h4
    simp only [Bool.and_eq_true] at h4
    obtain ⟨⟨g1, g2⟩, g3⟩ := h4
    refine ⟨of_decide_eq_true g1, of_decide_eq_true g2, fun e => ?_, fun e1 e2 => ?_, fun e1 e2 => ?_⟩
    · rw [if_pos e] at g3
      simp only [Bool.and_eq_true] at g3
      exact ⟨of_decide_eq_true g3.1, by simpa using g3.2⟩
    · rw [if_neg e1, if_pos e2] at g3
      simp only [Bool.and_eq_true] at g3
      exact ⟨by simpa using g3.1.1, of_decide_eq_true g3.1.2, of_decide_eq_true g3.2⟩
    · rw [if_neg e1, if_neg e2] at g3
      simp only [Bool.and_eq_true] at g3
      exact ⟨by simpa using g3.1.1, of_decide_eq_true g3.1.2, of_decide_eq_true g3.2⟩
end Go.Proofs.YtbighmmjmklioabDoor
