/- Plain facts: decimal numerals as lists of numbers. Nothing of the program. -/
import Derived.Test.YtfkodpglgeghlaaDoorHeadP
import Derived.Lib.ItoaMem
import Derived.Lib.UnsafeStr
namespace Go.Proofs.YtfkodpglgeghlaaDoor

def decL (u : Nat) : List Int := (Lib.decDigits u).map fun b => (b.toNat : Int)
def itoaL (i : Int) : List Int := (Lib.itoa i).map fun b => (b.toNat : Int)
theorem byteCells_itoa (i : Int) : Lib.byteCells (Lib.itoa i) = (itoaL i).map (Value.int .u8) := by
  unfold Lib.byteCells itoaL
  rw [List.map_map]
  rfl
theorem itoaL_len (i : Int) : (itoaL i).length = (Lib.itoa i).length := by simp [itoaL]
theorem decL_small {u : Nat} (h : u < 10) : decL u = [48 + (u : Int)] := by
  unfold decL
  rw [Lib.decDigits, dif_pos h]
  simp
  omega
theorem decL_big {u : Nat} (h : ¬ u < 10) : decL u = decL (u / 10) ++ [48 + ((u % 10 : Nat) : Int)] := by
  unfold decL
  rw [Lib.decDigits, dif_neg h, List.map_append]
  congr 1
  simp
  omega
theorem digs_app (xs : List Int) (y : Int) : digs (xs ++ [y]) = 10 * digs xs + (y - 48) := by simp [digs, List.foldl_append]
theorem dec_ok (u : Nat) : digs (decL u) = u ∧ (∀ x ∈ decL u, digB x = true) ∧ decL u ≠ [] := by
  induction u using Nat.strongRecOn with
  | _ u ih =>
    by_cases h : u < 10
    · rw [decL_small h]
      refine ⟨by simp [digs]; omega, fun x hx => ?_, by simp⟩
      have e : x = 48 + (u : Int) := by simpa using hx
      subst e
      simp [digB]; omega
    · obtain ⟨h1, h2, h3⟩ := ih (u / 10) (by omega)
      rw [decL_big h]
      refine ⟨by rw [digs_app, h1]; omega, fun x hx => ?_, by simp⟩
      rw [List.mem_append] at hx
      rcases hx with hx | hx
      · exact h2 x hx
      · have e : x = 48 + ((u % 10 : Nat) : Int) := by simpa using hx
        subst e
        simp [digB]; omega
theorem dec_len : ∀ (k u : Nat), u < 10 ^ (k + 1) → (decL u).length ≤ k + 1
  | 0, u, h => by rw [decL_small (by simpa using h)]; simp
  | k + 1, u, h => by
    by_cases h' : u < 10
    · rw [decL_small h']; simp
    · rw [decL_big h', List.length_append, List.length_singleton]
      have := dec_len k (u / 10) (by rw [Nat.pow_succ] at h; omega)
      omega
theorem itoaL_neg {i : Int} (h : i < 0) : itoaL i = 45 :: decL i.natAbs := by
  unfold itoaL Lib.itoa
  rw [if_pos h]
  rfl
theorem itoaL_pos {i : Int} (h : ¬ i < 0) : itoaL i = decL i.toNat := by
  unfold itoaL Lib.itoa
  rw [if_neg h]
  rfl
theorem dec_head (u : Nat) (c : Int) (hc : digB c = false) : (decL u).head? ≠ some c := by
  obtain ⟨_, h2, h3⟩ := dec_ok u
  cases e : decL u with
  | nil => exact absurd e h3
  | cons x t =>
    intro h
    have hx : x = c := by simpa using h
    have := h2 x (by rw [e]; simp)
    rw [hx, hc] at this
    cases this
theorem natL_dec (u : Nat) (h : u < 1000000000) : natL (decL u) = some (u : Int) := by
  obtain ⟨h1, h2, h3⟩ := dec_ok u
  unfold natL
  rw [if_pos ⟨List.length_pos_iff.2 h3, dec_len 8 u (by omega), by rw [List.all_eq_true]; exact h2⟩, h1]
theorem numL_itoa (i : Int) (h1 : -1000000000 < i) (h2 : i < 1000000000) : numL (itoaL i) = some i := by
  by_cases h : i < 0
  · rw [itoaL_neg h]
    unfold numL
    rw [if_pos (by simp), List.tail_cons, natL_dec _ (by omega)]
    simp; omega
  · rw [itoaL_pos h]
    unfold numL
    rw [if_neg (dec_head _ 45 (by decide)), natL_dec _ (by omega)]
    simp; omega
theorem itoa_len3 (i : Int) (h1 : -1000 < i) (h2 : i < 1000) : (itoaL i).length ≤ 4 := by
  by_cases h : i < 0
  · rw [itoaL_neg h, List.length_cons]
    have := dec_len 2 i.natAbs (by omega)
    omega
  · rw [itoaL_pos h]
    have := dec_len 2 i.toNat (by omega)
    omega
theorem dig_byte {x : Int} (h : digB x = true) : 0 ≤ x ∧ x ≤ 255 ∧ gapB x = false ∧ x ≠ 99 := by
  unfold digB at h
  simp at h
  refine ⟨by omega, by omega, ?_, by omega⟩
  unfold gapB
  simp
  omega
/-- A word of the text. -/
def Tok (t : List Int) : Prop := t ≠ [] ∧ (∀ x ∈ t, gapB x = false) ∧ t.head? ≠ some 99
theorem tok_itoa (i : Int) : Tok (itoaL i) ∧ Bts (itoaL i) := by
  by_cases h : i < 0
  · rw [itoaL_neg h]
    obtain ⟨_, h2, _⟩ := dec_ok i.natAbs
    refine ⟨⟨by simp, fun x hx => ?_, by simp⟩, fun x hx => ?_⟩
    · have hx' : x = 45 ∨ x ∈ decL i.natAbs := by simpa using hx
      rcases hx' with rfl | hx'
      · decide
      · exact (dig_byte (h2 x hx')).2.2.1
    · have hx' : x = 45 ∨ x ∈ decL i.natAbs := by simpa using hx
      rcases hx' with rfl | hx'
      · omega
      · have := dig_byte (h2 x hx'); omega
  · rw [itoaL_pos h]
    obtain ⟨_, h2, h3⟩ := dec_ok i.toNat
    exact ⟨⟨h3, fun x hx => (dig_byte (h2 x hx)).2.2.1, dec_head _ 99 (by decide)⟩, fun x hx => by have := dig_byte (h2 x hx); omega⟩

end Go.Proofs.YtfkodpglgeghlaaDoor
