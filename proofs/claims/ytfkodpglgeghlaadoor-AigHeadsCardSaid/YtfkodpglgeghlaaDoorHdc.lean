/- Contract of the head's check. Conditions: the head's numbers are small and not below 0; the errors lie as 'Sents' says. -/
import Derived.Test.YtfkodpglgeghlaaDoorGte
namespace Go.Proofs.YtfkodpglgeghlaaDoor
open Go.RowKit

/-- A head as a value. -/
def headV (hs : List (Int × Int)) : Value := .agg #[.int .i64 (hn hs 0), .int .i64 (hp hs 0), .int .i64 (hn hs 1), .int .i64 (hp hs 1), .int .i64 (hn hs 2), .int .i64 (hp hs 2), .int .i64 (hn hs 3), .int .i64 (hp hs 3), .int .i64 (hn hs 4), .int .i64 (hp hs 4)]
def ChkP (A : Nat → Addr) (w : World) (R : Option (Bool × Int)) (r : Ending) (w' : World) : Prop :=
  match R with
  | some f => ∃ ev, r = .returned ev ∧ AtB A w.heap.size w' ev f.2 (if f.1 = true then 1 else 0) ∧ Below w.heap.size w w'
  | none => r = .returned .nilIface ∧ Below w.heap.size w w'

set_option maxHeartbeats 4000000 in
theorem check_any (A : Nat → Addr) (hs : List (Int × Int)) (w : World) (hS : Sents w A) (h1 : 0 ≤ hn hs 1) (h1' : hn hs 1 < 1000000000) (h4 : 0 ≤ hn hs 4) (h4' : hn hs 4 < 1000000000) :
    Calls Tryd.prog 74 #[headV hs] w (ChkP A w (checkR hs)) := by
  have HT := Lib.hid (fun k i W => at_any A k i W)
  have c0 := hS.c0
  have c1 := hS.c1
  have z0 : 1 < w.heap.size := World.block_lt_of_cell? w _ c0
  have z1 : 0 < w.heap.size := World.block_lt_of_cell? w _ c1
  have z2 : 0 < w.heap.size := by omega
  have HB0 : ∀ o, Below w.heap.size w (w.alloc o) := fun o => (Below.refl _ _).alloc (Nat.le_refl _) _
  have HB := Lib.hid HB0; clear HB0
  unfold checkR headV
  clear hS
  generalize hn hs 0 = n0 at *
  generalize hn hs 1 = n1 at *
  generalize hn hs 2 = n2 at *
  generalize hn hs 3 = n3 at *
  generalize hn hs 4 = n4 at *
  generalize hp hs 0 = p0 at *
  generalize hp hs 1 = p1 at *
  generalize hp hs 2 = p2 at *
  generalize hp hs 3 = p3 at *
  generalize hp hs 4 = p4 at *
  by_cases d1 : 8000 < n1
  · rw [if_pos d1]
    have HT' := Lib.hid (fun W => HT.out p1 1 W)
    clear HT
    go_enter Tryd.func74, Tryd.ntmps74
    go_wp2_with (go_at_call 38; refine (HT'.out _).mono ?_; rintro e3 w3 ⟨⟨ev, rfl, hat⟩, hb3⟩)
    go_ret
    exact ⟨_, rfl, hat.mono (by simp), (HB.out _).trans (hb3.mono (by simp))⟩
  rw [if_neg d1]
  by_cases d2 : 8000 < n1 + n4
  · rw [if_pos d2]
    have HT' := Lib.hid (fun W => HT.out p4 1 W)
    clear HT
    go_enter Tryd.func74, Tryd.ntmps74
    go_wp2_with (go_at_call 38; refine (HT'.out _).mono ?_; rintro e3 w3 ⟨⟨ev, rfl, hat⟩, hb3⟩)
    go_ret
    exact ⟨_, rfl, hat.mono (by simp), (HB.out _).trans (hb3.mono (by simp))⟩
  rw [if_neg d2]
  by_cases d3 : 8000 < n3
  · rw [if_pos d3]
    have HT' := Lib.hid (fun W => HT.out p3 1 W)
    clear HT
    go_enter Tryd.func74, Tryd.ntmps74
    go_wp2_with (go_at_call 38; refine (HT'.out _).mono ?_; rintro e3 w3 ⟨⟨ev, rfl, hat⟩, hb3⟩)
    go_ret
    exact ⟨_, rfl, hat.mono (by simp), (HB.out _).trans (hb3.mono (by simp))⟩
  rw [if_neg d3]
  by_cases d4 : n0 = n1 + n4
  · rw [if_neg (fun h => h d4)]
    subst d4
    have hne : (n1 + n4 != n1 + n4) = false := by simp
    by_cases d5 : n2 = 0
    · subst d5
      rw [if_neg (fun h => h rfl)]
      clear HT
      go_enter Tryd.func74, Tryd.ntmps74
      go_wp2_with fail
      go_ret
      exact ⟨rfl, HB.out _⟩
    · rw [if_pos d5]
      have hn2 : (n2 != 0) = true := by simpa using d5
      have HT' := Lib.hid (fun W => HT.out p2 0 W)
      clear HT d5
      go_enter Tryd.func74, Tryd.ntmps74
      go_wp2_with (go_at_call 38; refine (HT'.out _).mono ?_; rintro e3 w3 ⟨⟨ev, rfl, hat⟩, hb3⟩)
      go_ret
      exact ⟨_, rfl, hat.mono (by simp), (HB.out _).trans (hb3.mono (by simp))⟩
  · rw [if_pos d4]
    have hne : (n0 != n1 + n4) = true := by simpa using d4
    have HT' := Lib.hid (fun W => HT.out p0 0 W)
    clear HT d4
    go_enter Tryd.func74, Tryd.ntmps74
    go_wp2_with (go_at_call 38; refine (HT'.out _).mono ?_; rintro e3 w3 ⟨⟨ev, rfl, hat⟩, hb3⟩)
    go_ret
    exact ⟨_, rfl, hat.mono (by simp), (HB.out _).trans (hb3.mono (by simp))⟩
end Go.Proofs.YtfkodpglgeghlaaDoor
