/- Contracts of the document's own skolemref1.at, text, plain, Head. Conditions: the slice reads as words, each of some bytes. -/
import Derived.Test.YtfoohdknjacenaaGreatDoorReadD
namespace Go.Proofs.YtfoohdknjacenaaGreatDoor
open Go.RowKit

/-- A fault as the document tells it. -/
def fltV (ws : List Wd) (e : Int) (f : Flt) : Value := faultV f.code f.placed (f.pos ws e)

set_option maxHeartbeats 1000000 in
theorem refAt_any (v : Value) (ws : List Wd) (k : Nat) (e : Int) (w : World) (hv : WRowO w v ws) :
    Calls Tryz.prog 60 #[v, .int .i64 k, .int .i64 e] w fun r w' => r = .returned (.int .i64 (posL ws k e)) ∧ w = w' := by
  obtain ⟨a, cap, rfl, hcl, hcm, hwo⟩ := hv
  unfold maxLen at hcm
  by_cases hk : k < ws.length
  · have hp : posL ws k e = (ws.getD k wd0).2.1 := by unfold posL; rw [if_pos hk]
    obtain ⟨g, off, rfl, hw⟩ := hwo.resolve_left (by omega)
    have hpos := hw.pos k hk
    rw [hp]
    clear hp hw hwo
    generalize (ws.getD k wd0).2.1 = pos at *
    generalize ws.length = n at *
    have hkc : (k : Int) < n := by omega
    go_enter Tryz.func60, Tryz.ntmps60
    go_wp2_with fail
    go_ret
    exact ⟨rfl, rfl⟩
  · have hp : posL ws k e = e := by unfold posL; rw [if_neg hk]
    rw [hp]
    clear hp hwo
    generalize ws.length = n at *
    have hkc : decide ((k : Int) < n) = false := by simp; omega
    go_enter Tryz.func60, Tryz.ntmps60
    go_wp2_with fail
    go_ret
    exact ⟨rfl, rfl⟩

set_option maxHeartbeats 1000000 in
theorem refText_any (v : Value) (ws : List Wd) (k : Nat) (e : Int) (w : World) (hv : WRowO w v ws) :
    Calls Tryz.prog 29 #[v, .int .i64 k, .int .i64 e] w fun r w' => r = .returned (fltV ws e (.text k)) ∧ Below w.heap.size w w' := by
  have HA := Lib.hid (fun W (hW : Below w.heap.size w W) => refAt_any v ws k e W (hv.keep hW))
  have HP := Lib.hid (fun p W => placed_any 101 p W (by omega))
  have HB := Lib.hid (fun o => show Below w.heap.size w (w.alloc o) from (Below.refl _ w).alloc (Nat.le_refl _) _)
  show Calls _ _ _ _ fun r w' => r = .returned (faultV 101 true (posL ws k e)) ∧ _
  generalize posL ws k e = p at *
  obtain ⟨a, cap, rfl, _, _, _⟩ := hv
  unfold faultV at *
  go_enter Tryz.func29, Tryz.ntmps29
  go_wp2_with (first
    | (go_at_call 60; refine (HA.out _ (HB.out _)).mono ?_; rintro e w' ⟨rfl, rfl⟩)
    | (go_at_call 21; refine (HP.out _ _).mono ?_; rintro e w2 ⟨rfl, hb⟩; obtain ⟨hc, hf⟩ := bcell hb))
  have hbw := (HB.out _).trans (hb.mono (by simp))
  exact bodyPost_ret (v := .agg #[.int .i64 101, .bool true, .int .i64 p]) (by simp [results, Tryz.results29, go_sem, hc]) rfl ⟨rfl, ((hbw.setCell (Nat.le_refl _) _).setCell (Nat.le_refl _) _).setCell (Nat.le_refl _) _⟩

theorem head_at {xs : List Int} (h : xs ≠ []) : decide (xs.head? = some 45) = (xs.getD 0 0 == 45) := by
  cases xs with
  | nil => exact absurd rfl h
  | cons x t => rw [Bool.eq_iff_iff]; simp

set_option maxHeartbeats 2000000 in
theorem refPlain_any (v : Value) (ws : List Wd) (k : Nat) (w : World) (hv : WRowO w v ws) (hok : WOk ws) :
    Calls Tryz.prog 59 #[v, .int .i64 k] w fun r w' => r = .returned (.tuple #[.int .i64 ((cntL ws k).getD 0), .bool (cntL ws k).isSome]) ∧ Below w.heap.size w w' := by
  obtain ⟨a, cap, rfl, hcl, hcm, hwo⟩ := hv
  unfold maxLen at hcm
  by_cases hk : k < ws.length
  · obtain ⟨g, off, rfl, hw⟩ := hwo.resolve_left (by omega)
    have hf : w.cell? ⟨g, off + k * 3 + 2, none⟩ = some (.bool (fst ws k)) := hw.fst k hk
    have ht : w.cell? ⟨g, off + k * 3, none⟩ = some (.string (strOfNums (txt ws k))) := hw.text k hk
    obtain ⟨x1, x2, x3⟩ := hok.at hk
    have HN := Lib.hid (fun W => refNum_any (txt ws k) W x2 x3)
    unfold NumPost at HN
    have hyy := fun h => str_at x2 0 h
    have hss : (strOfNums (txt ws k)).size = (txt ws k).length := strOfNums_size _
    have hpos : 0 < (txt ws k).length := List.length_pos_iff.2 x1
    have hc : cntL ws k = if fst ws k = false ∧ (txt ws k).head? ≠ some 45 then numL (txt ws k) else none := by
      unfold cntL
      by_cases h : fst ws k = false ∧ (txt ws k).head? ≠ some 45
      · rw [if_pos ⟨hk, h⟩, if_pos h]
      · rw [if_neg (fun h' => h h'.2), if_neg h]
    rw [hc]
    have hha := head_at x1
    clear hw hwo hok x1 x2 x3 hc
    generalize fst ws k = f at *
    generalize txt ws k = xs at *
    generalize ws.length = n at *
    generalize strOfNums xs = s at *
    have hkc : decide ((n : Int) ≤ (k : Int)) = false := by simp; omega
    have hkd : (k : Int) < n := by omega
    cases f with
    | true =>
      rw [if_neg (by simp)]
      clear HN hyy
      go_enter Tryz.func59, Tryz.ntmps59
      go_wp2_with fail
      (try go_ret2)
      exact ⟨rfl, Below.refl _ _⟩
    | false =>
      generalize hy : xs.getD 0 0 = y at *
      generalize xs.length = m at *
      have hs0 : 0 < s.size := by omega
      cases hsg : (y == 45) with
      | true =>
        rw [hsg] at hha
        rw [if_neg (by have : xs.head? = some 45 := by simpa using hha
                       simp [this])]
        have hyd : y = 45 := by simpa using hsg
        subst hyd
        clear HN hha hy hsg
        go_enter Tryz.func59, Tryz.ntmps59
        go_wp2_with fail
        (try go_ret2)
        exact ⟨rfl, Below.refl _ _⟩
      | false =>
        rw [hsg] at hha
        rw [if_pos ⟨rfl, by simpa using hha⟩]
        clear hha hy
        generalize (numL xs).getD 0 = nn at *
        generalize (numL xs).isSome = ns at *
        go_enter Tryz.func59, Tryz.ntmps59
        go_wp2_with (go_at_call 30; refine (HN.out _).mono ?_; rintro e w2 ⟨rfl, hb2⟩)
        (try go_ret2)
        exact ⟨rfl, hb2⟩
  · have hc : cntL ws k = none := by unfold cntL; rw [if_neg (fun h => hk h.1)]
    rw [hc]
    clear hc hok hwo
    generalize ws.length = n at *
    have hkc : decide ((n : Int) ≤ (k : Int)) = true := by simp; omega
    go_enter Tryz.func59, Tryz.ntmps59
    go_wp2_with fail
    (try go_ret2)
    exact ⟨rfl, Below.refl _ _⟩
end Go.Proofs.YtfoohdknjacenaaGreatDoor
