/- Contracts of the helpers that only look at a byte: word.kind, word.is, skolemref1.blank; and the plain functions that they are. Conditions: the byte is one (0 to 255); the kind asked for is one of the four. -/
import Derived.Test.YtfkodpglgeghlaaDoorBase
import Derived.Test.YtfkodpglgeghlaaDoorChecked
import Derived.IntWalk
namespace Go.Proofs.YtfkodpglgeghlaaDoor
open Go.RowKit

/-- The kinds of a byte. -/
def kindI (c : Int) : Int := if c = 10 then 3 else if c = 32 ∨ c = 9 ∨ c = 13 then 1 else if c = 48 ∨ c = 49 then 12 else if 50 ≤ c ∧ c ≤ 57 then 4 else 0
def gapB (c : Int) : Bool := decide (c = 10) || (decide (c = 32) || (decide (c = 9) || decide (c = 13)))
def nlB (c : Int) : Bool := decide (c = 10)
def digB (c : Int) : Bool := decide (48 ≤ c) && decide (c ≤ 57)
def bitB (c : Int) : Bool := decide (c = 48) || decide (c = 49)
def blankB (c : Int) : Bool := decide (c = 32) || decide (c = 9) || decide (c = 13)
theorem gap_parts (c : Int) : gapB c = (nlB c || blankB c) := by unfold gapB nlB blankB; cases decide (c = 10) <;> cases decide (c = 32) <;> cases decide (c = 9) <;> cases decide (c = 13) <;> rfl

theorem kind_few (c : Int) (h1 : 0 ≤ c) (h2 : c ≤ 255) : (c = 10 ∨ c = 32 ∨ c = 9 ∨ c = 13 ∨ c = 48 ∨ c = 49 ∨ c = 50 ∨ c = 51 ∨ c = 52 ∨ c = 53 ∨ c = 54 ∨ c = 55 ∨ c = 56 ∨ c = 57) ∨ ((c == 10) = false ∧ (c == 32) = false ∧ (c == 9) = false ∧ (c == 13) = false ∧ (c == 48) = false ∧ (c == 49) = false ∧ (c == 50) = false ∧ (c == 51) = false ∧ (c == 52) = false ∧ (c == 53) = false ∧ (c == 54) = false ∧ (c == 55) = false ∧ (c == 56) = false ∧ (c == 57) = false ∧ kindI c = 0) := by
  by_cases h : c = 10 ∨ c = 32 ∨ c = 9 ∨ c = 13 ∨ c = 48 ∨ c = 49 ∨ c = 50 ∨ c = 51 ∨ c = 52 ∨ c = 53 ∨ c = 54 ∨ c = 55 ∨ c = 56 ∨ c = 57
  · exact .inl h
  · right
    have hk : kindI c = 0 := by unfold kindI; rw [if_neg (by omega), if_neg (by omega), if_neg (by omega), if_neg (by omega)]
    refine ⟨?_, ?_, ?_, ?_, ?_, ?_, ?_, ?_, ?_, ?_, ?_, ?_, ?_, ?_, hk⟩ <;> simp <;> omega

set_option maxHeartbeats 2000000 in
theorem kind_any (c : Int) (w : World) (h1 : 0 ≤ c) (h2 : c ≤ 255) :
    Calls Tryd.prog 72 #[.int .u8 c] w fun e w' => e = .returned (.int .i64 (kindI c)) ∧ w = w' := by
  rcases kind_few c h1 h2 with h | ⟨g1, g2, g3, g4, g5, g6, g7, g8, g9, g10, g11, g12, g13, g14, hk⟩
  · rcases h with rfl | rfl | rfl | rfl | rfl | rfl | rfl | rfl | rfl | rfl | rfl | rfl | rfl | rfl
    all_goals
      clear h1 h2
      go_enter Tryd.func72, Tryd.ntmps72
      go_wp2
      go_ret
      exact ⟨ret_int (by decide), rfl⟩
  · have HK := Lib.hid hk; clear hk
    go_enter Tryd.func72, Tryd.ntmps72
    go_wp2
    go_ret
    exact ⟨ret_int HK.out.symm, rfl⟩
theorem kindI_few (c : Int) : (kindI c = 3 ∧ gapB c = true ∧ nlB c = true ∧ digB c = false ∧ bitB c = false) ∨ (kindI c = 1 ∧ gapB c = true ∧ nlB c = false ∧ digB c = false ∧ bitB c = false) ∨ (kindI c = 12 ∧ gapB c = false ∧ nlB c = false ∧ digB c = true ∧ bitB c = true) ∨ (kindI c = 4 ∧ gapB c = false ∧ nlB c = false ∧ digB c = true ∧ bitB c = false) ∨ (kindI c = 0 ∧ gapB c = false ∧ nlB c = false ∧ digB c = false ∧ bitB c = false) := by
  unfold kindI gapB nlB digB bitB
  by_cases h1 : c = 10
  · subst h1; left; simp
  · by_cases h2 : c = 32 ∨ c = 9 ∨ c = 13
    · right; left; rw [if_neg h1, if_pos h2]; rcases h2 with rfl | rfl | rfl <;> simp
    · by_cases h3 : c = 48 ∨ c = 49
      · right; right; left; rw [if_neg h1, if_neg h2, if_pos h3]; rcases h3 with rfl | rfl <;> simp
      · by_cases h4 : 50 ≤ c ∧ c ≤ 57
        · right; right; right; left; rw [if_neg h1, if_neg h2, if_neg h3, if_pos h4]; simp; omega
        · right; right; right; right; rw [if_neg h1, if_neg h2, if_neg h3, if_neg h4]; simp; omega

theorem is_four (c : Int) (w : World) (h1 : 0 ≤ c) (h2 : c ≤ 255) (k : Int) (r : Bool) (hk : (k = 1 ∧ r = gapB c) ∨ (k = 2 ∧ r = nlB c) ∨ (k = 4 ∧ r = digB c) ∨ (k = 8 ∧ r = bitB c)) :
    Calls Tryd.prog 53 #[.int .u8 c, .int .i64 k] w fun e w' => e = .returned (.bool r) ∧ w = w' := by
  have H := Lib.hid (kind_any c w h1 h2)
  rcases kindI_few c with ⟨e, e1, e2, e3, e4⟩ | ⟨e, e1, e2, e3, e4⟩ | ⟨e, e1, e2, e3, e4⟩ | ⟨e, e1, e2, e3, e4⟩ | ⟨e, e1, e2, e3, e4⟩ <;>
  rw [e1, e2, e3, e4] at hk <;> rw [e] at H <;> clear e e1 e2 e3 e4 <;>
  rcases hk with ⟨rfl, rfl⟩ | ⟨rfl, rfl⟩ | ⟨rfl, rfl⟩ | ⟨rfl, rfl⟩
  all_goals
    go_enter Tryd.func53, Tryd.ntmps53
    go_wp2_with (go_at_call 72; refine H.out.mono ?_; rintro e w' ⟨rfl, rfl⟩)
    go_ret
    exact ⟨ret_bool (by decide), rfl⟩

theorem is_gap (c : Int) (w : World) (h1 : 0 ≤ c) (h2 : c ≤ 255) : Calls Tryd.prog 53 #[.int .u8 c, .int .i64 1] w fun e w' => e = .returned (.bool (gapB c)) ∧ w = w' := is_four c w h1 h2 1 _ (.inl ⟨rfl, rfl⟩)
theorem is_nl (c : Int) (w : World) (h1 : 0 ≤ c) (h2 : c ≤ 255) : Calls Tryd.prog 53 #[.int .u8 c, .int .i64 2] w fun e w' => e = .returned (.bool (nlB c)) ∧ w = w' := is_four c w h1 h2 2 _ (.inr (.inl ⟨rfl, rfl⟩))
theorem is_dig (c : Int) (w : World) (h1 : 0 ≤ c) (h2 : c ≤ 255) : Calls Tryd.prog 53 #[.int .u8 c, .int .i64 4] w fun e w' => e = .returned (.bool (digB c)) ∧ w = w' := is_four c w h1 h2 4 _ (.inr (.inr (.inl ⟨rfl, rfl⟩)))
theorem is_bit (c : Int) (w : World) (h1 : 0 ≤ c) (h2 : c ≤ 255) : Calls Tryd.prog 53 #[.int .u8 c, .int .i64 8] w fun e w' => e = .returned (.bool (bitB c)) ∧ w = w' := is_four c w h1 h2 8 _ (.inr (.inr (.inr ⟨rfl, rfl⟩)))

end Go.Proofs.YtfkodpglgeghlaaDoor
