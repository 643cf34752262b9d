/- Plain facts: what the words of a text tell as a circuit ('readR'), step by step, and what is amiss first. Nothing of the program. -/
import Derived.Test.YtfkodpglgeghlaaDoorHeadP
namespace Go.Proofs.YtfkodpglgeghlaaDoor

/-- What a step of reading tells: the place of what is amiss, or what was read and the words behind it. -/
inductive Rd (α : Type) | bad (pos : Int) | got (x : α) (ws : List Wd)

/-- The next word, the first of its line or not. -/
def nextR (first : Bool) (e : Int) : List Wd → Rd Wd
  | [] => .bad e
  | x :: ws => if x.2.2 = first then .got x ws else .bad x.2.1
/-- A word as a number without a sign. -/
def numU (xs : List Int) : Option Int := if xs.head? = some 45 then none else numL xs
theorem numU_bd {xs : List Int} {n : Int} (h : numU xs = some n) : 0 ≤ n ∧ n < 1000000000 := by
  unfold numU at h
  split at h
  · cases h
  · rename_i h'
    exact ⟨numL_pos h' h, (numL_bd h).2⟩
def numbR (first : Bool) (most : Int) (e : Int) (ws : List Wd) : Rd (Int × Int) :=
  match nextR first e ws with
  | .bad p => .bad p
  | .got x ws' => match numU x.1 with
    | none => .bad x.2.1
    | some n => if most < n then .bad x.2.1 else .got (n, (x.2.1 : Int)) ws'
def justR (n : Int) (e : Int) (ws : List Wd) : Rd Unit :=
  match numbR true n e ws with
  | .bad p => .bad p
  | .got y ws' => if y.1 = n then .got () ws' else .bad y.2
def gateR (n : Int) (e : Int) (ws : List Wd) : Rd (Int × Int) :=
  match justR (2 * n) e ws with
  | .bad p => .bad p
  | .got _ w1 => match numbR false (2 * n - 1) e w1 with
    | .bad p => .bad p
    | .got a w2 => match numbR false a.1 e w2 with
      | .bad p => .bad p
      | .got b w3 => .got (a.1, b.1) w3
def maxI : Int := 9223372036854775807
def fiveR (e : Int) : Nat → List Wd → List (Int × Int) → Rd (List (Int × Int))
  | 0, ws, hs => .got hs ws
  | k + 1, ws, hs => match numbR false maxI e ws with
    | .bad p => .bad p
    | .got y ws' => fiveR e k ws' (hs ++ [y])
def headR (e : Int) (ws : List Wd) : Rd (List (Int × Int)) :=
  match nextR true e ws with
  | .bad p => .bad p
  | .got x ws' => if x.1 = [97, 97, 103] then fiveR e 5 ws' [] else .bad x.2.1
/-- The k-th number of the head; its place. -/
def hn (hs : List (Int × Int)) (k : Nat) : Int := (hs.getD k (0, 0)).1
def hp (hs : List (Int × Int)) (k : Nat) : Int := (hs.getD k (0, 0)).2
/-- What is amiss with the head's numbers: a limit or not, the place. -/
def checkR (hs : List (Int × Int)) : Option (Bool × Int) :=
  if 8000 < hn hs 1 then some (true, hp hs 1)
  else if 8000 < hn hs 1 + hn hs 4 then some (true, hp hs 4)
  else if 8000 < hn hs 3 then some (true, hp hs 3)
  else if hn hs 0 ≠ hn hs 1 + hn hs 4 then some (false, hp hs 0)
  else if hn hs 2 ≠ 0 then some (false, hp hs 2)
  else none
def tailR : List Wd → Option Int
  | [] => none
  | x :: _ => if x.2.2 = true ∧ x.1.head? = some 99 then none else some x.2.1
/-- A circuit: inputs, gates, outputs; a fault: a limit or not, the place. -/
abbrev Cr := Int × List (Int × Int) × List Int
abbrev Res := Cr × Option (Bool × Int)
def badC (f : Bool × Int) : Res := ((0, [], []), some f)
def contT (i : Nat) (ps : List (Int × Int)) (os : List Int) (ws : List Wd) : Res :=
  match tailR ws with
  | some p => badC (false, p)
  | none => (((i : Int), ps, os), none)
def contG (e : Int) (i : Nat) : Nat → Nat → List Wd → List (Int × Int) → List Int → Res
  | 0, _, ws, ps, os => contT i ps os ws
  | r + 1, k, ws, ps, os => match gateR ((i : Int) + k + 1) e ws with
    | .bad p => badC (false, p)
    | .got g ws' => contG e i r (k + 1) ws' (ps ++ [g]) os
def contO (e : Int) (i m a : Nat) : Nat → List Wd → List Int → Res
  | 0, ws, os => contG e i a 0 ws [] os
  | r + 1, ws, os => match numbR true (2 * (m : Int) + 1) e ws with
    | .bad p => badC (false, p)
    | .got y ws' => contO e i m a r ws' (os ++ [y.1])
def contI (e : Int) (i m o a : Nat) : Nat → Nat → List Wd → Res
  | 0, _, ws => contO e i m a o ws []
  | r + 1, k, ws => match justR (2 * ((k : Int) + 1)) e ws with
    | .bad p => badC (false, p)
    | .got _ ws' => contI e i m o a r (k + 1) ws'
def readR (e : Int) (ws : List Wd) : Res :=
  match headR e ws with
  | .bad p => badC (false, p)
  | .got hs w1 => match checkR hs with
    | some f => badC f
    | none => contI e (hn hs 1).toNat (hn hs 0).toNat (hn hs 3).toNat (hn hs 4).toNat (hn hs 1).toNat 0 w1

section
variable {e : Int} {ws : List Wd} {first : Bool} {most : Int}
theorem nextR_nil : nextR first e [] = .bad e := rfl
theorem nextR_ok {x : Wd} (h : x.2.2 = first) : nextR first e (x :: ws) = .got x ws := if_pos h
theorem nextR_bad {x : Wd} (h : x.2.2 ≠ first) : nextR first e (x :: ws) = .bad x.2.1 := if_neg h
theorem numbR_next_bad {p : Int} (h : nextR first e ws = .bad p) : numbR first most e ws = .bad p := by unfold numbR; rw [h]
theorem numbR_none {x : Wd} {ws' : List Wd} (h : nextR first e ws = .got x ws') (h2 : numU x.1 = none) : numbR first most e ws = .bad x.2.1 := by unfold numbR; rw [h]; simp only [h2]
theorem numbR_big {x : Wd} {ws' : List Wd} {n : Int} (h : nextR first e ws = .got x ws') (h2 : numU x.1 = some n) (h3 : most < n) : numbR first most e ws = .bad x.2.1 := by unfold numbR; rw [h]; simp only [h2, if_pos h3]
theorem numbR_ok {x : Wd} {ws' : List Wd} {n : Int} (h : nextR first e ws = .got x ws') (h2 : numU x.1 = some n) (h3 : ¬ most < n) : numbR first most e ws = .got (n, (x.2.1 : Int)) ws' := by unfold numbR; rw [h]; simp only [h2, if_neg h3]
/-- What a number that was read is. -/
theorem numbR_got {y : Int × Int} {ws' : List Wd} (h : numbR first most e ws = .got y ws') : ∃ x, ws = x :: ws' ∧ x.2.2 = first ∧ numU x.1 = some y.1 ∧ y.2 = x.2.1 ∧ 0 ≤ y.1 ∧ y.1 < 1000000000 ∧ y.1 ≤ most := by
  unfold numbR at h
  cases ws with
  | nil => rw [nextR_nil] at h; cases h
  | cons x ws =>
    by_cases hf : x.2.2 = first
    · rw [nextR_ok hf] at h
      cases hu : numU x.1 with
      | none => simp only [hu] at h; cases h
      | some n =>
        simp only [hu] at h
        split at h
        · cases h
        · rename_i hm
          injection h with h1 h2
          subst h1; subst h2
          obtain ⟨b1, b2⟩ := numU_bd hu
          exact ⟨x, rfl, hf, hu, rfl, b1, b2, by omega⟩
    · rw [nextR_bad hf] at h; cases h
theorem justR_bad {n p : Int} (h : numbR true n e ws = .bad p) : justR n e ws = .bad p := by unfold justR; rw [h]
theorem justR_other {n : Int} {y : Int × Int} {ws' : List Wd} (h : numbR true n e ws = .got y ws') (h2 : y.1 ≠ n) : justR n e ws = .bad y.2 := by unfold justR; rw [h]; exact if_neg h2
theorem justR_ok {n : Int} {y : Int × Int} {ws' : List Wd} (h : numbR true n e ws = .got y ws') (h2 : y.1 = n) : justR n e ws = .got () ws' := by unfold justR; rw [h]; exact if_pos h2
theorem justR_got {n : Int} {u : Unit} {ws' : List Wd} (h : justR n e ws = .got u ws') : ∃ x, ws = x :: ws' ∧ x.2.2 = true ∧ numU x.1 = some n := by
  unfold justR at h
  cases hb : numbR true n e ws with
  | bad p => rw [hb] at h; cases h
  | got y w1 =>
    simp only [hb] at h
    split at h
    · rename_i hy
      injection h with _ h2
      subst h2
      obtain ⟨x, h1, h2, h3, _⟩ := numbR_got hb
      exact ⟨x, h1, h2, by rw [h3, hy]⟩
    · cases h
theorem fiveR_len : ∀ (k : Nat) (ws : List Wd) (hs : List (Int × Int)) (r : List (Int × Int)) (ws' : List Wd), fiveR e k ws hs = .got r ws' → r.length = hs.length + k
  | 0, ws, hs, r, ws', h => by
    injection h with h1 h2
    subst h1; rfl
  | k + 1, ws, hs, r, ws', h => by
    unfold fiveR at h
    cases hb : numbR false maxI e ws with
    | bad p => rw [hb] at h; cases h
    | got y w1 =>
      rw [hb] at h
      have := fiveR_len k w1 _ r ws' h
      simp at this
      omega
end
end Go.Proofs.YtfkodpglgeghlaaDoor
