/- Contracts of the document's own count, text, limits; of skolemref1.Split. Conditions: the slices read as words, each of some bytes; as numbers. -/
import Derived.Test.YtcefeidfmnggaaaDoorRda
import Derived.Test.YtcefeidfmnggaaaDoorRefSplit
namespace Go.Proofs.YtcefeidfmnggaaaDoor
open Go.RowKit

theorem refSplit_row (v : Value) (xs : List Int) (cm : Bool) (w : World) (hv : RowG (Value.int .u8) 0 w v xs) (hb : Bts xs) (hn : xs.length ≤ 4000000) :
    Calls Tryd.prog 20 #[v, .bool cm] w fun e w' => (∃ u, e = .returned u ∧ WRow w' u (wordsL cm xs)) ∧ Below w.heap.size w w' :=
  (refSplit_any v xs cm w hv hb hn).mono fun _ _ ⟨u, he, ho, hb⟩ => ⟨⟨u, he, own_wrow ho⟩, hb⟩

/-- The word k as a number without a sign. -/
def cntW (ws : List Wd) (k : Nat) (first : Bool) : Option Int := if k < ws.length ∧ fst ws k = first then numU (txt ws k) else none
section
variable {ws : List Wd} {k : Nat} {first : Bool} {most e : Int}
theorem cntW_in {n : Int} (h : cntW ws k first = some n) : k < ws.length ∧ 0 ≤ n ∧ n < 1000000000 := by
  unfold cntW at h
  split at h
  · rename_i h'; exact ⟨h'.1, numU_bd h⟩
  · cases h
theorem numb_none (h : cntW ws k first = none) : numbR first most e (ws.drop k) = .bad (posL ws k e) := by
  unfold cntW at h
  by_cases hk : k < ws.length
  · rw [drop_consW ws k hk]
    have hp : posL ws k e = (ws.getD k wd0).2.1 := by unfold posL; rw [if_pos hk]
    rw [hp]
    by_cases hf : fst ws k = first
    · rw [if_pos ⟨hk, hf⟩] at h
      exact numbR_none (nextR_ok hf) h
    · exact numbR_next_bad (nextR_bad hf)
  · rw [List.drop_eq_nil_of_le (by omega)]
    have hp : posL ws k e = e := by unfold posL; rw [if_neg hk]
    rw [hp]
    exact numbR_next_bad nextR_nil
theorem numb_some {n : Int} (h : cntW ws k first = some n) : numbR first most e (ws.drop k) = if most < n then .bad (posL ws k e) else .got (n, posL ws k e) (ws.drop (k + 1)) := by
  have hk := (cntW_in h).1
  unfold cntW at h
  rw [drop_consW ws k hk]
  have hp : posL ws k e = (ws.getD k wd0).2.1 := by unfold posL; rw [if_pos hk]
  rw [hp]
  by_cases hf : fst ws k = first
  · rw [if_pos ⟨hk, hf⟩] at h
    by_cases hm : most < n
    · rw [if_pos hm]; exact numbR_big (nextR_ok hf) h hm
    · rw [if_neg hm]; exact numbR_ok (nextR_ok hf) h hm
  · rw [if_neg (fun h => hf h.2)] at h; cases h
end
theorem head_at {xs : List Int} (h : xs ≠ []) (c : Int) : decide (xs.head? = some c) = (xs.getD 0 0 == c) := by
  cases xs with
  | nil => exact absurd rfl h
  | cons x t => rw [Bool.eq_iff_iff]; simp

set_option maxHeartbeats 2000000 in
theorem refCount_any (v : Value) (ws : List Wd) (k : Nat) (first : Bool) (w : World) (hv : WRow w v ws) (hok : WOk ws) :
    Calls Tryd.prog 22 #[v, .int .i64 k, .bool first] w fun r w' => r = .returned (.tuple #[.int .i64 ((cntW ws k first).getD 0), .bool (cntW ws k first).isSome]) ∧ Below w.heap.size w w' := by
  obtain ⟨a, cap, rfl, hcl, hcm, hwo⟩ := hv
  unfold maxLen at hcm
  by_cases hk : k < ws.length
  · obtain ⟨g, rfl, hw⟩ := hwo.resolve_left (by omega)
    have hf : w.cell? ⟨g, k * 3 + 2, none⟩ = some (.bool (fst ws k)) := hw.fst k hk
    have ht : w.cell? ⟨g, k * 3, none⟩ = some (.string (strOfNums (txt ws k))) := hw.text k hk
    obtain ⟨x1, x2, x3⟩ := hok.at hk
    have HN := Lib.hid (fun W => refNum_any (txt ws k) W x2 x3)
    unfold NumPost at HN
    have hyy := fun h => str_at x2 0 h
    have hss : (strOfNums (txt ws k)).size = (txt ws k).length := strOfNums_size _
    have hpos : 0 < (txt ws k).length := List.length_pos_iff.2 x1
    have hc : cntW ws k first = if fst ws k = first then (if (txt ws k).head? = some 45 then none else numL (txt ws k)) else none := by
      unfold cntW numU
      by_cases h : fst ws k = first
      · rw [if_pos ⟨hk, h⟩, if_pos h]
      · rw [if_neg (fun h' => h h'.2), if_neg h]
    rw [hc]
    have hha := head_at x1 45
    clear hw hwo hok x1 x2 x3 hc
    generalize fst ws k = f at *
    generalize txt ws k = xs at *
    generalize ws.length = n at *
    generalize strOfNums xs = s at *
    have hkc : decide ((n : Int) ≤ (k : Int)) = false := by simp; omega
    have hkd : (k : Int) < n := by omega
    by_cases hff : f = first
    · subst hff
      rw [if_pos rfl]
      have hfe : (f != f) = false := by simp
      generalize hy : xs.getD 0 0 = y at *
      generalize xs.length = m at *
      have hs0 : 0 < s.size := by omega
      cases hsg : (y == 45) with
      | true =>
        rw [hsg] at hha
        rw [if_pos (by simpa using hha)]
        have hyd : y = 45 := by simpa using hsg
        subst hyd
        clear HN hha hy hsg
        go_enter Tryd.func22, Tryd.ntmps22
        go_wp2_with fail
        (try go_ret2)
        exact ⟨rfl, Below.refl _ _⟩
      | false =>
        rw [hsg] at hha
        rw [if_neg (by simpa using hha)]
        clear hha hy
        generalize (numL xs).getD 0 = nn at *
        generalize (numL xs).isSome = ns at *
        go_enter Tryd.func22, Tryd.ntmps22
        go_wp2_with (go_at_call 41; refine (HN.out _).mono ?_; rintro e w2 ⟨rfl, hb2⟩)
        (try go_ret2)
        exact ⟨rfl, hb2⟩
    · rw [if_neg hff]
      clear HN hyy hha
      have HFF := Lib.hid hff; clear hff
      cases f <;> cases first
      all_goals first | exact absurd rfl HFF.out | skip
      all_goals
        clear HFF
        go_enter Tryd.func22, Tryd.ntmps22
        go_wp2_with fail
        (try go_ret2)
        exact ⟨rfl, Below.refl _ _⟩
  · have hc : cntW ws k first = none := by unfold cntW; rw [if_neg (fun h => hk h.1)]
    rw [hc]
    clear hc hok hwo
    generalize ws.length = n at *
    have hkc : decide ((n : Int) ≤ (k : Int)) = true := by simp; omega
    go_enter Tryd.func22, Tryd.ntmps22
    go_wp2_with fail
    (try go_ret2)
    exact ⟨rfl, Below.refl _ _⟩

set_option maxHeartbeats 1000000 in
theorem refText_any (v : Value) (ws : List Wd) (k : Nat) (e : Int) (w : World) (hv : WRow w v ws) :
    Calls Tryd.prog 21 #[v, .int .i64 k, .int .i64 e] w fun r w' => r = .returned (faultV 101 true (posL ws k e)) ∧ Below w.heap.size w w' := by
  have HP := Lib.hid (fun p W => placed_any 101 p W (by omega))
  have HB := Lib.hid (fun o => show Below w.heap.size w (w.alloc o) from (Below.refl _ w).alloc (Nat.le_refl _) _)
  obtain ⟨a, cap, rfl, hcl, hcm, hwo⟩ := hv
  unfold maxLen at hcm
  unfold faultV at *
  by_cases hk : k < ws.length
  · have hp : posL ws k e = (ws.getD k wd0).2.1 := by unfold posL; rw [if_pos hk]
    obtain ⟨g, rfl, hw⟩ := hwo.resolve_left (by omega)
    have hpos := hw.pos k hk
    have hg := hw.sq
    rw [hp]
    clear hp hw hwo
    generalize (ws.getD k wd0).2.1 = pos at *
    generalize ws.length = n at *
    have hkc : (k : Int) < n := by omega
    go_enter Tryd.func21, Tryd.ntmps21
    go_wp2_with (go_at_call 16; refine (HP.out _ _).mono ?_; rintro e w2 ⟨rfl, hb⟩; obtain ⟨hc, hf⟩ := bcell hb)
    have hbw := (HB.out _).trans (hb.mono (by simp))
    exact bodyPost_ret (v := .agg #[.int .i64 101, .bool true, .int .i64 pos]) (by simp [results, Tryd.results21, go_sem, hc]) rfl ⟨rfl, ((hbw.setCell (Nat.le_refl _) _).setCell (Nat.le_refl _) _).setCell (Nat.le_refl _) _⟩
  · have hp : posL ws k e = e := by unfold posL; rw [if_neg hk]
    rw [hp]
    clear hp hwo
    generalize ws.length = n at *
    have hkc : decide ((k : Int) < n) = false := by simp; omega
    go_enter Tryd.func21, Tryd.ntmps21
    go_wp2_with (go_at_call 16; refine (HP.out _ _).mono ?_; rintro e w2 ⟨rfl, hb⟩; obtain ⟨hc, hf⟩ := bcell hb)
    have hbw := (HB.out _).trans (hb.mono (by simp))
    exact bodyPost_ret (v := .agg #[.int .i64 101, .bool true, .int .i64 e]) (by simp [results, Tryd.results21, go_sem, hc]) rfl ⟨rfl, ((hbw.setCell (Nat.le_refl _) _).setCell (Nat.le_refl _) _).setCell (Nat.le_refl _) _⟩

def limR (n1 n3 n4 : Int) : Int := if 8000 < n1 then 2 else if 8000 < n1 + n4 then 5 else if 8000 < n3 then 4 else -1
set_option maxHeartbeats 2000000 in
theorem limits_any (v : Value) (ns : List Int) (w : World) (hv : Row w v ns) (hl : ns.length = 5) (h1 : 0 ≤ ns.getD 1 0) (h1' : ns.getD 1 0 < 1000000000) (h4 : 0 ≤ ns.getD 4 0) (h4' : ns.getD 4 0 < 1000000000) :
    Calls Tryd.prog 23 #[v] w fun r w' => r = .returned (.int .i64 (limR (ns.getD 1 0) (ns.getD 3 0) (ns.getD 4 0))) ∧ Below w.heap.size w w' := by
  obtain ⟨a, cap, rfl, hcl, hcm, hwo⟩ := hv
  unfold maxLen at hcm
  obtain ⟨g, off, rfl, hg, hc⟩ := hwo.resolve_left (by omega)
  have c1 := hc 1 (by omega)
  have c3 := hc 3 (by omega)
  have c4 := hc 4 (by omega)
  rw [hl] at hcl ⊢
  clear hc hwo hl
  unfold limR
  generalize ns.getD 1 0 = n1 at *
  generalize ns.getD 3 0 = n3 at *
  generalize ns.getD 4 0 = n4 at *
  by_cases d1 : 8000 < n1
  · rw [if_pos d1]
    go_enter Tryd.func23, Tryd.ntmps23
    go_wp2_with fail
    go_ret
    exact ⟨rfl, Below.refl _ _⟩
  · rw [if_neg d1]
    have e1 : decide (8000 < n1) = false := decide_eq_false d1
    by_cases d2 : 8000 < n4
    · have e2 : decide (8000 < n4) = true := decide_eq_true d2
      rw [if_pos (by omega)]
      go_enter Tryd.func23, Tryd.ntmps23
      go_wp2_with fail
      go_quiet (fail)
      go_wp2_with fail
      go_ret
      exact ⟨rfl, below_drewN (Below.refl _ _) _⟩
    · have e2 : decide (8000 < n4) = false := decide_eq_false d2
      by_cases d3 : 8000 < n1 + n4
      · have e3 : decide (8000 < n1 + n4) = true := decide_eq_true d3
        rw [if_pos d3]
        go_enter Tryd.func23, Tryd.ntmps23
        go_wp2_with fail
        go_quiet (fail)
        go_wp2_with fail
        go_ret
        exact ⟨rfl, below_drewN (Below.refl _ _) _⟩
      · have e3 : decide (8000 < n1 + n4) = false := decide_eq_false d3
        rw [if_neg d3]
        by_cases d4 : 8000 < n3
        · rw [if_pos d4]
          go_enter Tryd.func23, Tryd.ntmps23
          go_wp2_with fail
          go_quiet (fail)
          go_wp2_with fail
          go_ret
          exact ⟨rfl, below_drewN (Below.refl _ _) _⟩
        · rw [if_neg d4]
          go_enter Tryd.func23, Tryd.ntmps23
          go_wp2_with fail
          go_quiet (fail)
          go_wp2_with fail
          go_ret
          exact ⟨rfl, below_drewN (Below.refl _ _) _⟩
end Go.Proofs.YtcefeidfmnggaaaDoor
