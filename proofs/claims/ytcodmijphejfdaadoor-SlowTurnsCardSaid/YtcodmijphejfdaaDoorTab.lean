/- Contracts of slow.clause.holds, slow.hold, slow.table.wins: clauses as masks, held against numbers. Conditions: the masks are small, so are the counts of variables. -/
import Derived.Test.YtcodmijphejfdaaDoorOfA
namespace Go.Proofs.YtcodmijphejfdaaDoor
open Go.RowKit

/-- The value v is a slice of clauses that reads as these masks. -/
def RowM (w : World) (v : Value) (ds : List (Nat × Nat)) : Prop :=
  ∃ a c, v = .slice a ds.length c ∧ ds.length ≤ c ∧ c ≤ maxLen ∧ (ds.length = 0 ∨ ∃ b off, a = some ⟨b, off, none⟩ ∧ b < w.heap.size ∧ ∀ i, i < ds.length → w.cell? ⟨b, off + i * 2, none⟩ = some (.int .i64 ((ds.getD i (0, 0)).1 : Int)) ∧ w.cell? ⟨b, off + i * 2 + 1, none⟩ = some (.int .i64 ((ds.getD i (0, 0)).2 : Int)))
theorem RowM.keep {w w' : World} {v : Value} {ds : List (Nat × Nat)} (h : RowM w v ds) (hb : Below w.heap.size w w') : RowM w' v ds := by
  obtain ⟨a, c, e, h1, h2, h3⟩ := h
  refine ⟨a, c, e, h1, h2, ?_⟩
  rcases h3 with h3 | ⟨b, off, e, hlt, hc⟩
  · exact .inl h3
  · exact .inr ⟨b, off, e, Nat.lt_of_lt_of_le hlt hb.size, fun i hi => ⟨(hb.cell (p := ⟨b, off + i * 2, none⟩) hlt).trans (hc i hi).1, (hb.cell (p := ⟨b, off + i * 2 + 1, none⟩) hlt).trans (hc i hi).2⟩⟩
theorem RowM.nil (w : World) : RowM w (.slice none 0 0) [] := ⟨none, 0, rfl, Nat.le_refl _, by unfold maxLen; omega, .inl rfl⟩

set_option maxHeartbeats 1000000 in
theorem clHolds_any (P M n : Nat) (w : World) :
    Calls Tryd.prog 84 #[.agg #[.int .i64 (P : Int), .int .i64 (M : Int)], .int .i64 (n : Int)] w fun e w' => e = .returned (.bool (holdsM (P, M) n)) ∧ Below w.heap.size w w' := by
  have HB := Lib.hid (fun o => show Below w.heap.size w (w.alloc o) from (Below.refl _ w).alloc (Nat.le_refl _) _)
  unfold holdsM
  go_enter Tryd.func84, Tryd.ntmps84
  go_wp2_with fail
  go_ret
  exact ⟨rfl, HB.out _⟩

/-- All clauses hold at the number. -/
def holdD (ds : List (Nat × Nat)) (n : Nat) : Bool := ds.all fun d => holdsM d n
theorem holdD_no {ds : List (Nat × Nat)} {n k : Nat} (hk : k < ds.length) (h : holdsM (ds.getD k (0, 0)) n = false) : holdD ds n = false := by
  unfold holdD
  rw [List.all_eq_false]
  exact ⟨ds[k], List.getElem_mem hk, by simpa [List.getD, hk] using h⟩
theorem holdD_yes {ds : List (Nat × Nat)} {n : Nat} (h : ∀ j, j < ds.length → holdsM (ds.getD j (0, 0)) n = true) : holdD ds n = true := by
  unfold holdD
  rw [List.all_eq_true]
  intro d hd
  obtain ⟨j, hj, rfl⟩ := List.getElem_of_mem hd
  simpa [List.getD, hj] using h j hj

set_option maxHeartbeats 2000000 in
theorem hold_any (v : Value) (ds : List (Nat × Nat)) (n : Nat) (w : World) (hv : RowM w v ds) :
    Calls Tryd.prog 62 #[v, .int .i64 (n : Int)] w fun e w' => e = .returned (.bool (holdD ds n)) ∧ Below w.heap.size w w' := by
  obtain ⟨a, c, rfl, hc1, hc2, hr⟩ := hv
  unfold maxLen at hc2
  have HR := Lib.hid hr; clear hr
  have HNO := Lib.hid (fun k (hk : k < ds.length) h => @holdD_no ds n k hk h)
  have HYES := Lib.hid (@holdD_yes ds n)
  generalize holdD ds n = r at *
  generalize hN : ds.length = m at *
  have HN := Lib.hid hN; clear hN
  go_enter Tryd.func62, Tryd.ntmps62
  go_wp2_with fail
  go_loopw [6, 9] (fun _ i wr => ∃ k : Nat, k ≤ m ∧ i = .int .i64 k ∧ Below w.heap.size w wr ∧ Hid (∀ j, j < k → holdsM (ds.getD j (0, 0)) n = true)) (fun _ i _ => m - (intOf i).toNat)
  case atStart => exact ⟨0, Nat.zero_le _, rfl, Below.refl _ _, fun j hj => absurd hj (Nat.not_lt_zero _)⟩
  case round =>
    obtain ⟨k, hk, rfl, hbr, HQ⟩ := hrel
    by_cases hlt : k < m
    · obtain ⟨b, off, ha, hb, hc⟩ := HR.out.resolve_left (by omega)
      subst ha
      obtain ⟨g1, g2⟩ := hc k hlt
      have g1' := (hbr.cell (p := ⟨b, off + k * 2, none⟩) hb).trans g1
      have g2' := (hbr.cell (p := ⟨b, off + k * 2 + 1, none⟩) hb).trans g2
      have HNK := Lib.hid (HNO.out k hlt)
      have HQ1 : Hid (holdsM (ds.getD k (0, 0)) n = true → ∀ j, j < k + 1 → holdsM (ds.getD j (0, 0)) n = true) := fun h j hj => by
        by_cases e : j = k
        · subst e; exact h
        · exact HQ.out j (by omega)
      clear g1 g2 hc
      generalize ds.getD k (0, 0) = d at *
      obtain ⟨P, M⟩ := d
      have HH := Lib.hid (fun W => clHolds_any P M n W)
      have HBR := Lib.hid hbr
      have HBA := Lib.hid (fun o => hbr.alloc hbr.size o)
      clear hbr
      cases hh : holdsM (P, M) n with
      | false =>
        rw [hh] at HH
        have HRF := Lib.hid (HNK.out hh)
        clear hh HQ1
        go_wp2_with (go_at_call 84; refine (HH.out _).mono ?_; rintro e w2 ⟨rfl, hw2⟩)
        go_ret
        exact ⟨ret_bool HRF.out.symm, (HBA.out _).trans (hw2.mono (HBA.out _).size)⟩
      | true =>
        rw [hh] at HH
        have HQ2 := Lib.hid (HQ1.out hh)
        clear hh HQ1 HNK
        go_wp2_with (go_at_call 84; refine (HH.out _).mono ?_; rintro e w2 ⟨rfl, hw2⟩)
        go_roundw
        case rel => exact ⟨k + 1, by omega, by go_num, (HBA.out _).trans (hw2.mono (HBA.out _).size), HQ2.out⟩
        case measure => simp [intOf]; omega
    · have hkn : k = m := by omega
      subst hkn
      have HA := Lib.hid (HYES.out HQ.out)
      have HBR := Lib.hid hbr
      clear hlt hbr HQ HYES HNO
      go_wp2_with fail
      go_ret
      exact ⟨ret_bool HA.out.symm, HBR.out⟩

/-- The outer player's values o win: no inner ones turn it. -/
def winD (ds : List (Nat × Nat)) (ex : Bool) (outer inner o : Nat) : Bool := (List.range (2 ^ inner)).all fun i => holdD ds (i * 2 ^ outer + o) == ex
theorem winD_no {ds : List (Nat × Nat)} {ex : Bool} {outer inner o i : Nat} (hi : i < 2 ^ inner) (h : holdD ds (i * 2 ^ outer + o) ≠ ex) : winD ds ex outer inner o = false := by
  unfold winD
  rw [List.all_eq_false]
  exact ⟨i, List.mem_range.2 hi, by simpa using h⟩
theorem winD_yes {ds : List (Nat × Nat)} {ex : Bool} {outer inner o : Nat} (h : ∀ i, i < 2 ^ inner → holdD ds (i * 2 ^ outer + o) = ex) : winD ds ex outer inner o = true := by
  unfold winD
  rw [List.all_eq_true]
  intro i hi
  simpa using h i (List.mem_range.1 hi)
theorem or_join (i o outer : Nat) (ho : o < 2 ^ outer) (hp : i * 2 ^ outer + o < 4611686018427387904) : bits .or .i64 ((i * 2 ^ outer : Nat) : Int) (o : Int) = ((i * 2 ^ outer + o : Nat) : Int) := by
  rw [bits_or_i64 _ _ (by omega) (by omega), or_nat i o outer ho]
end Go.Proofs.YtcodmijphejfdaaDoor
