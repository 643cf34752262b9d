/- Plain facts: what the words of a text tell as clauses ('headL', 'clausesL'), and what is amiss first. Nothing of the program. -/
import Derived.Test.YtfkodpglgeghlaaDoorWRow
import Derived.Test.YtfkodpglgeghlaaDoorNum
namespace Go.Proofs.YtfkodpglgeghlaaDoor

/-- What is amiss: nothing; the word k (or there is none); the word k tells too much. -/
inductive Flt | ok | text (k : Nat) | lim (k : Nat)
def posL (ws : List Wd) (k : Nat) (e : Int) : Int := if k < ws.length then ((ws.getD k wd0).2.1 : Int) else e
/-- The fault as it is told. -/
def Flt.code : Flt → Int
  | .ok => 0 | .text _ => 101 | .lim _ => 102
def Flt.placed : Flt → Bool
  | .ok => false | .text _ => true | .lim _ => true
def Flt.pos (ws : List Wd) (e : Int) : Flt → Int
  | .ok => 0 | .text k => posL ws k e | .lim k => posL ws k e
def isF (l vars : Int) : Bool := decide (l ≠ 0) && (decide (l ≤ vars) && decide (-vars ≤ l))
def txt (ws : List Wd) (k : Nat) : List Int := (ws.getD k wd0).1
def fst (ws : List Wd) (k : Nat) : Bool := (ws.getD k wd0).2.2
/-- Each word is some bytes. -/
def WOk (ws : List Wd) : Prop := ∀ x ∈ ws, x.1 ≠ [] ∧ Bts x.1 ∧ x.1.length ≤ 4000000
theorem WOk.at {ws : List Wd} (h : WOk ws) {k : Nat} (hk : k < ws.length) : txt ws k ≠ [] ∧ Bts (txt ws k) ∧ (txt ws k).length ≤ 4000000 := by
  have := h _ (List.getElem_mem hk)
  simpa [txt, List.getD, hk] using this
/-- The word k as a count: on the line of the one ahead, without a sign. -/
def cntL (ws : List Wd) (k : Nat) : Option Int := if k < ws.length ∧ fst ws k = false ∧ (txt ws k).head? ≠ some 45 then numL (txt ws k) else none
def headL (ws : List Wd) : Int × Int × Flt :=
  if ¬ (0 < ws.length ∧ fst ws 0 = true ∧ txt ws 0 = [112]) then (0, 0, .text 0)
  else if ¬ (1 < ws.length ∧ fst ws 1 = false ∧ txt ws 1 = [99, 110, 102]) then (0, 0, .text 1)
  else match cntL ws 2 with
    | none => (0, 0, .text 2)
    | some v => if 4000 < v then (0, 0, .lim 2) else
      match cntL ws 3 with
      | none => (0, 0, .text 3)
      | some m => if 20000 < m then (0, 0, .lim 3) else (v, m, .ok)
/-- The clauses from the word i on; out: those already, c: the one at hand. -/
def clausesL (vars many : Int) : Nat → List Wd → List (List Int) → List Int → List (List Int) × Flt
  | i, [], out, _ => if (out.length : Int) < many then ([], .text i) else (out, .ok)
  | i, x :: ws, out, c => if many ≤ (out.length : Int) then ([], .text i) else
    match numL x.1 with
    | none => ([], .text i)
    | some l => if l = 0 then clausesL vars many (i + 1) ws (out ++ [c]) [] else
      if isF l vars = true then clausesL vars many (i + 1) ws out (c ++ [l]) else ([], .text i)
theorem drop_consW (ws : List Wd) (k : Nat) (h : k < ws.length) : ws.drop k = ws.getD k wd0 :: ws.drop (k + 1) := by
  rw [List.drop_eq_getElem_cons h]; simp [List.getD, h]
section
variable {vars many : Int} {ws : List Wd} {i : Nat} {out : List (List Int)} {c : List Int}
theorem cl_end (h : ws.length ≤ i) (h2 : (out.length : Int) < many) : clausesL vars many i (ws.drop i) out c = ([], .text i) := by
  rw [List.drop_eq_nil_of_le h, clausesL, if_pos h2]
theorem cl_done (h : ws.length ≤ i) (h2 : ¬ (out.length : Int) < many) : clausesL vars many i (ws.drop i) out c = (out, .ok) := by
  rw [List.drop_eq_nil_of_le h, clausesL, if_neg h2]
theorem cl_more (h : i < ws.length) (h2 : many ≤ (out.length : Int)) : clausesL vars many i (ws.drop i) out c = ([], .text i) := by
  rw [drop_consW ws i h, clausesL, if_pos h2]
theorem cl_none (h : i < ws.length) (h2 : numL (txt ws i) = none) : clausesL vars many i (ws.drop i) out c = ([], .text i) := by
  rw [drop_consW ws i h, clausesL]
  split
  · rfl
  · rw [show (ws.getD i wd0).1 = txt ws i from rfl, h2]
theorem cl_zero (h : i < ws.length) (h1 : (out.length : Int) < many) (h2 : numL (txt ws i) = some 0) : clausesL vars many i (ws.drop i) out c = clausesL vars many (i + 1) (ws.drop (i + 1)) (out ++ [c]) [] := by
  rw [drop_consW ws i h, clausesL, if_neg (by omega), show (ws.getD i wd0).1 = txt ws i from rfl, h2]
  simp
theorem cl_lit {l : Int} (h : i < ws.length) (h1 : (out.length : Int) < many) (h2 : numL (txt ws i) = some l) (h3 : l ≠ 0) (h4 : isF l vars = true) : clausesL vars many i (ws.drop i) out c = clausesL vars many (i + 1) (ws.drop (i + 1)) out (c ++ [l]) := by
  rw [drop_consW ws i h, clausesL, if_neg (by omega), show (ws.getD i wd0).1 = txt ws i from rfl, h2]
  simp [h3, h4]
theorem cl_bad {l : Int} (h : i < ws.length) (h2 : numL (txt ws i) = some l) (h3 : l ≠ 0) (h4 : isF l vars = false) : clausesL vars many i (ws.drop i) out c = ([], .text i) := by
  rw [drop_consW ws i h, clausesL]
  split
  · rfl
  · rw [show (ws.getD i wd0).1 = txt ws i from rfl, h2]
    simp [h3, h4]
end
theorem natL_bd {xs : List Int} {n : Int} (h : natL xs = some n) : 0 ≤ n ∧ n < 1000000000 := by
  unfold natL at h
  split at h
  · rename_i h'
    obtain ⟨h1, h2, h3⟩ := h'
    have := digs_nine xs xs.length (Nat.le_refl _) (fun j hj => by
      have := List.all_eq_true.1 h3 (xs.getD j 0) (by simp [List.getD, hj])
      exact this) h2
    rw [List.take_length] at this
    obtain rfl := Option.some.inj h
    exact this
  · cases h
theorem numL_bd {xs : List Int} {n : Int} (h : numL xs = some n) : -1000000000 < n ∧ n < 1000000000 := by
  unfold numL at h
  split at h
  · cases h' : natL xs.tail with
    | none => rw [h'] at h; cases h
    | some m =>
      rw [h'] at h
      have := natL_bd h'
      have e : -m = n := Option.some.inj h
      omega
  · have := natL_bd h
    omega
theorem numL_pos {xs : List Int} {n : Int} (hs : xs.head? ≠ some 45) (h : numL xs = some n) : 0 ≤ n := by
  unfold numL at h
  rw [if_neg hs] at h
  exact (natL_bd h).1
end Go.Proofs.YtfkodpglgeghlaaDoor
