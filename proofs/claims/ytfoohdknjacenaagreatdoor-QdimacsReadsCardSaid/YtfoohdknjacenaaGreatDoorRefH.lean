/- Contracts of the document's own skolemref1.Head. Conditions: the slice reads as words, each of some bytes. -/
import Derived.Test.YtfoohdknjacenaaGreatDoorRefD
namespace Go.Proofs.YtfoohdknjacenaaGreatDoor
open Go.RowKit

def RHPost (w : World) (ws : List Wd) (e : Int) (R : Int × Int × Flt) (r : Ending) (w' : World) : Prop := r = .returned (.tuple #[.int .i64 R.1, .int .i64 R.2.1, fltV ws e R.2.2]) ∧ Below w.heap.size w w'
theorem headL_n0 {ws : List Wd} (h : ¬ (0 < ws.length ∧ fst ws 0 = true ∧ txt ws 0 = [112])) : headL ws = (0, 0, .text 0) := by unfold headL; rw [if_pos h]
theorem headL_n1 {ws : List Wd} (h0 : 0 < ws.length ∧ fst ws 0 = true ∧ txt ws 0 = [112]) (h : ¬ (1 < ws.length ∧ fst ws 1 = false ∧ txt ws 1 = [99, 110, 102])) : headL ws = (0, 0, .text 1) := by unfold headL; rw [if_neg (fun h => h h0), if_pos h]
theorem headL_n2 {ws : List Wd} (h0 : 0 < ws.length ∧ fst ws 0 = true ∧ txt ws 0 = [112]) (h1 : 1 < ws.length ∧ fst ws 1 = false ∧ txt ws 1 = [99, 110, 102]) : headL ws = match cntL ws 2 with
    | none => (0, 0, .text 2)
    | some v => if 4000 < v then (0, 0, .lim 2) else
      match cntL ws 3 with
      | none => (0, 0, .text 3)
      | some m => if 20000 < m then (0, 0, .lim 3) else (v, m, .ok) := by unfold headL; rw [if_neg (fun h => h h0), if_neg (fun h => h h1)]; rfl
theorem cnt_in {ws : List Wd} {k : Nat} {n : Int} (h : cntL ws k = some n) : k < ws.length := by
  unfold cntL at h
  split at h
  · rename_i h'; exact h'.1
  · cases h

theorem cnt_bd {ws : List Wd} {k : Nat} {n : Int} (h : cntL ws k = some n) : -1000000000 < n ∧ n < 1000000000 := by
  unfold cntL at h
  split at h
  · exact numL_bd h
  · cases h

set_option maxRecDepth 8000 in
set_option maxHeartbeats 1000000 in
theorem refHead_any (v : Value) (ws : List Wd) (e : Int) (w : World) (hv : WRow w v ws) (hok : WOk ws) (hn : ws.length ≤ 4000) :
    Calls Tryz.prog 28 #[v, .int .i64 e] w (RHPost w ws e (headL ws)) := by
  have HBW : Hid (∀ o, Below w.heap.size w (w.alloc o)) := fun o => (Below.refl _ w).alloc (Nat.le_refl _) _
  have HX0 : Hid (∀ W, Below w.heap.size w W → Calls Tryz.prog 29 #[v, .int .i64 0, .int .i64 e] W fun r w' => r = .returned (fltV ws e (.text 0)) ∧ Below W.heap.size W w') := fun W hW => refText_any v ws 0 e W (hv.o.keep hW)
  have HX1 : Hid (∀ W, Below w.heap.size w W → Calls Tryz.prog 29 #[v, .int .i64 1, .int .i64 e] W fun r w' => r = .returned (fltV ws e (.text 1)) ∧ Below W.heap.size W w') := fun W hW => refText_any v ws 1 e W (hv.o.keep hW)
  have HX2 : Hid (∀ W, Below w.heap.size w W → Calls Tryz.prog 29 #[v, .int .i64 2, .int .i64 e] W fun r w' => r = .returned (fltV ws e (.text 2)) ∧ Below W.heap.size W w') := fun W hW => refText_any v ws 2 e W (hv.o.keep hW)
  have HX3 : Hid (∀ W, Below w.heap.size w W → Calls Tryz.prog 29 #[v, .int .i64 3, .int .i64 e] W fun r w' => r = .returned (fltV ws e (.text 3)) ∧ Below W.heap.size W w') := fun W hW => refText_any v ws 3 e W (hv.o.keep hW)
  have HP2 : Hid (∀ W, Below w.heap.size w W → Calls Tryz.prog 59 #[v, .int .i64 2] W fun r w' => r = .returned (.tuple #[.int .i64 ((cntL ws 2).getD 0), .bool (cntL ws 2).isSome]) ∧ Below W.heap.size W w') := fun W hW => refPlain_any v ws 2 W (hv.o.keep hW) hok
  have HP3 : Hid (∀ W, Below w.heap.size w W → Calls Tryz.prog 59 #[v, .int .i64 3] W fun r w' => r = .returned (.tuple #[.int .i64 ((cntL ws 3).getD 0), .bool (cntL ws 3).isSome]) ∧ Below W.heap.size W w') := fun W hW => refPlain_any v ws 3 W (hv.o.keep hW) hok
  unfold fltV at *
  unfold faultV at *
  have HPL := Lib.hid (fun (p : Int) W => placed_any 102 p W (by omega))
  have HNO := Lib.hid (fun W => none_any W)
  unfold faultV at HPL HNO
  by_cases hl0 : ws.length = 0
  case pos =>
    rw [headL_n0 (fun h => by omega)]
    clear HX1 HX2 HX3 HP2 HP3 HPL HNO
    obtain ⟨a, cap, rfl, hcl, hcm, hwo⟩ := hv
    clear hwo hok
    show Calls _ _ _ _ (fun r w' => r = .returned (.tuple #[.int .i64 0, .int .i64 0, .agg #[.int .i64 101, .bool true, .int .i64 (posL ws 0 e)]]) ∧ Below w.heap.size w w')
    simp only [Flt.code, Flt.placed, Flt.pos] at HX0
    generalize posL ws 0 e = ps at *
    generalize ws.length = n at *
    subst hl0
    go_enter Tryz.func28, Tryz.ntmps28
    go_wp2_with (go_at_call 29; refine (HX0.out _ (HBW.out _)).mono ?_; rintro e2 w9 ⟨rfl, hb9⟩; obtain ⟨hc, hf⟩ := bcell hb9)
    have hbf := (HBW.out _).trans (hb9.mono (by simp))
    exact bodyPost_ret (v := .tuple #[.int .i64 0, .int .i64 0, .agg #[.int .i64 101, .bool true, .int .i64 ps]]) (by simp [results, Tryz.results28, go_sem, hc]) rfl ⟨rfl, ((hbf.setCell (Nat.le_refl _) _).setCell (Nat.le_refl _) _).setCell (Nat.le_refl _) _⟩
  case neg =>
  have hnb : ((ws.length : Int) == 0) = false := beq_eq_false_iff_ne.2 (by omega)
  obtain ⟨g, cap, rfl, hcl, hcm, hw⟩ := wrow_some hv hl0
  have hg := hw.sq
  have HG : Hid (∀ o v, w.cell? ⟨g, o, none⟩ = some v → ∀ W, Below w.heap.size w W → W.cell? ⟨g, o, none⟩ = some v) := fun o v h W hW => (hW.cell (p := ⟨g, o, none⟩) hg).trans h
  have t0 : w.cell? ⟨g, 0, none⟩ = some (.string (strOfNums (txt ws 0))) := by have := hw.text 0 (by omega); rwa [Nat.zero_mul] at this
  have f0 : w.cell? ⟨g, 2, none⟩ = some (.bool (fst ws 0)) := by have := hw.fst 0 (by omega); rwa [Nat.zero_mul] at this
  have hkp : (0 : Int) < ws.length := by omega
  by_cases ht0 : txt ws 0 = [112]
  case neg =>
    rw [headL_n0 (fun h => ht0 h.2.2)]
    have hne := str_ne (ys := [112]) (hok.at (show 0 < ws.length by omega)).2.1 (by intro x hx; simp at hx; omega) ht0
    rw [show (strOfNums [112]).toList = [112] from by rw [str_toList]; rfl] at hne
    clear HX1 HX2 HX3 HP2 HP3 HPL HNO hok hv hw f0 ht0
    generalize strOfNums (txt ws 0) = s at *
    show Calls _ _ _ _ (fun r w' => r = .returned (.tuple #[.int .i64 0, .int .i64 0, .agg #[.int .i64 101, .bool true, .int .i64 (posL ws 0 e)]]) ∧ Below w.heap.size w w')
    simp only [Flt.code, Flt.placed, Flt.pos] at HX0
    generalize posL ws 0 e = ps at *
    generalize ws.length = n at *
    go_enter Tryz.func28, Tryz.ntmps28
    go_wp2_with (go_at_call 29; refine (HX0.out _ (HBW.out _)).mono ?_; rintro e2 w9 ⟨rfl, hb9⟩; obtain ⟨hc, hf⟩ := bcell hb9)
    have hbf := (HBW.out _).trans (hb9.mono (by simp))
    exact bodyPost_ret (v := .tuple #[.int .i64 0, .int .i64 0, .agg #[.int .i64 101, .bool true, .int .i64 ps]]) (by simp [results, Tryz.results28, go_sem, hc]) rfl ⟨rfl, ((hbf.setCell (Nat.le_refl _) _).setCell (Nat.le_refl _) _).setCell (Nat.le_refl _) _⟩
  case pos =>
  rw [ht0, show strOfNums [112] = ⟨#[112]⟩ from rfl] at t0
  cases hf0 : fst ws 0
  case false =>
    rw [headL_n0 (fun h => by rw [hf0] at h; cases h.2.1)]
    rw [hf0] at f0
    clear HX1 HX2 HX3 HP2 HP3 HPL HNO hok hv hw ht0 hf0
    show Calls _ _ _ _ (fun r w' => r = .returned (.tuple #[.int .i64 0, .int .i64 0, .agg #[.int .i64 101, .bool true, .int .i64 (posL ws 0 e)]]) ∧ Below w.heap.size w w')
    simp only [Flt.code, Flt.placed, Flt.pos] at HX0
    generalize posL ws 0 e = ps at *
    generalize ws.length = n at *
    go_enter Tryz.func28, Tryz.ntmps28
    go_wp2_with (go_at_call 29; refine (HX0.out _ (HBW.out _)).mono ?_; rintro e2 w9 ⟨rfl, hb9⟩; obtain ⟨hc, hf⟩ := bcell hb9)
    have hbf := (HBW.out _).trans (hb9.mono (by simp))
    exact bodyPost_ret (v := .tuple #[.int .i64 0, .int .i64 0, .agg #[.int .i64 101, .bool true, .int .i64 ps]]) (by simp [results, Tryz.results28, go_sem, hc]) rfl ⟨rfl, ((hbf.setCell (Nat.le_refl _) _).setCell (Nat.le_refl _) _).setCell (Nat.le_refl _) _⟩
  case true =>
  rw [hf0] at f0
  have h0 : 0 < ws.length ∧ fst ws 0 = true ∧ txt ws 0 = [112] := ⟨by omega, hf0, ht0⟩
  clear HX0 hf0 ht0
  by_cases hl1 : ws.length < 2
  case pos =>
    rw [headL_n1 h0 (fun h => by omega)]
    have hlb : decide ((ws.length : Int) < 2) = true := by simp; omega
    clear HX2 HX3 HP2 HP3 HPL HNO hok hv hw h0
    show Calls _ _ _ _ (fun r w' => r = .returned (.tuple #[.int .i64 0, .int .i64 0, .agg #[.int .i64 101, .bool true, .int .i64 (posL ws 1 e)]]) ∧ Below w.heap.size w w')
    simp only [Flt.code, Flt.placed, Flt.pos] at HX1
    generalize posL ws 1 e = ps at *
    generalize ws.length = n at *
    go_enter Tryz.func28, Tryz.ntmps28
    go_wp2_with (go_at_call 29; refine (HX1.out _ (HBW.out _)).mono ?_; rintro e2 w9 ⟨rfl, hb9⟩; obtain ⟨hc, hf⟩ := bcell hb9)
    have hbf := (HBW.out _).trans (hb9.mono (by simp))
    exact bodyPost_ret (v := .tuple #[.int .i64 0, .int .i64 0, .agg #[.int .i64 101, .bool true, .int .i64 ps]]) (by simp [results, Tryz.results28, go_sem, hc]) rfl ⟨rfl, ((hbf.setCell (Nat.le_refl _) _).setCell (Nat.le_refl _) _).setCell (Nat.le_refl _) _⟩
  case neg =>
  have hlb : decide ((ws.length : Int) < 2) = false := by simp; omega
  have hkq : (1 : Int) < ws.length := by omega
  have t1 : w.cell? ⟨g, 3, none⟩ = some (.string (strOfNums (txt ws 1))) := by have := hw.text 1 (by omega); rwa [Nat.one_mul] at this
  have f1 : w.cell? ⟨g, 5, none⟩ = some (.bool (fst ws 1)) := by have := hw.fst 1 (by omega); rwa [Nat.one_mul] at this
  by_cases ht1 : txt ws 1 = [99, 110, 102]
  case neg =>
    rw [headL_n1 h0 (fun h => ht1 h.2.2)]
    have hne := str_ne (ys := [99, 110, 102]) (hok.at (show 1 < ws.length by omega)).2.1 (by intro x hx; simp at hx; omega) ht1
    rw [show (strOfNums [99, 110, 102]).toList = [99, 110, 102] from by rw [str_toList]; rfl] at hne
    clear HX2 HX3 HP2 HP3 HPL HNO hok hv hw f1 ht1 h0
    generalize strOfNums (txt ws 1) = s at *
    show Calls _ _ _ _ (fun r w' => r = .returned (.tuple #[.int .i64 0, .int .i64 0, .agg #[.int .i64 101, .bool true, .int .i64 (posL ws 1 e)]]) ∧ Below w.heap.size w w')
    simp only [Flt.code, Flt.placed, Flt.pos] at HX1
    generalize posL ws 1 e = ps at *
    generalize ws.length = n at *
    go_enter Tryz.func28, Tryz.ntmps28
    go_wp2_with (go_at_call 29; refine (HX1.out _ (HBW.out _)).mono ?_; rintro e2 w9 ⟨rfl, hb9⟩; obtain ⟨hc, hf⟩ := bcell hb9)
    have hbf := (HBW.out _).trans (hb9.mono (by simp))
    exact bodyPost_ret (v := .tuple #[.int .i64 0, .int .i64 0, .agg #[.int .i64 101, .bool true, .int .i64 ps]]) (by simp [results, Tryz.results28, go_sem, hc]) rfl ⟨rfl, ((hbf.setCell (Nat.le_refl _) _).setCell (Nat.le_refl _) _).setCell (Nat.le_refl _) _⟩
  case pos =>
  rw [ht1, show strOfNums [99, 110, 102] = ⟨#[99, 110, 102]⟩ from rfl] at t1
  cases hf1 : fst ws 1
  case true =>
    rw [headL_n1 h0 (fun h => by rw [hf1] at h; cases h.2.1)]
    rw [hf1] at f1
    clear HX2 HX3 HP2 HP3 HPL HNO hok hv hw ht1 hf1 h0
    show Calls _ _ _ _ (fun r w' => r = .returned (.tuple #[.int .i64 0, .int .i64 0, .agg #[.int .i64 101, .bool true, .int .i64 (posL ws 1 e)]]) ∧ Below w.heap.size w w')
    simp only [Flt.code, Flt.placed, Flt.pos] at HX1
    generalize posL ws 1 e = ps at *
    generalize ws.length = n at *
    go_enter Tryz.func28, Tryz.ntmps28
    go_wp2_with (go_at_call 29; refine (HX1.out _ (HBW.out _)).mono ?_; rintro e2 w9 ⟨rfl, hb9⟩; obtain ⟨hc, hf⟩ := bcell hb9)
    have hbf := (HBW.out _).trans (hb9.mono (by simp))
    exact bodyPost_ret (v := .tuple #[.int .i64 0, .int .i64 0, .agg #[.int .i64 101, .bool true, .int .i64 ps]]) (by simp [results, Tryz.results28, go_sem, hc]) rfl ⟨rfl, ((hbf.setCell (Nat.le_refl _) _).setCell (Nat.le_refl _) _).setCell (Nat.le_refl _) _⟩
  case false =>
  rw [hf1] at f1
  have HH := Lib.hid (headL_n2 h0 ⟨by omega, hf1, ht1⟩)
  clear HX1 hf1 ht1 h0 hok
  cases h2 : cntL ws 2 with
  | none =>
    rw [h2, Option.getD_none, Option.isSome_none] at HP2
    rw [show headL ws = (0, 0, .text 2) by rw [HH.out, h2]]
    clear HX3 HP3 HPL HNO hv hw h2 HH
    show Calls _ _ _ _ (fun r w' => r = .returned (.tuple #[.int .i64 0, .int .i64 0, .agg #[.int .i64 101, .bool true, .int .i64 (posL ws 2 e)]]) ∧ Below w.heap.size w w')
    simp only [Flt.code, Flt.placed, Flt.pos] at HX2
    generalize posL ws 2 e = ps at *
    generalize ws.length = n at *
    go_enter Tryz.func28, Tryz.ntmps28
    go_wp2_with (first
      | (go_at_call_of 59 (Value.int IntKind.i64 (2 : Int)); refine (HP2.out _ (HBW.out _)).mono ?_; rintro e2 w2 ⟨rfl, hp2⟩; have hq2 := (HBW.out _).trans (hp2.mono (by simp)))
      | (go_at_call 29; refine (HX2.out _ hq2).mono ?_; rintro e2 w9 ⟨rfl, hb9⟩; have hbf := hq2.trans (hb9.mono hq2.size); obtain ⟨hc, hf⟩ := bcell (hp2.trans (hb9.mono hp2.size))))
    exact bodyPost_ret (v := .tuple #[.int .i64 0, .int .i64 0, .agg #[.int .i64 101, .bool true, .int .i64 ps]]) (by simp [results, Tryz.results28, go_sem, hc]) rfl ⟨rfl, ((hbf.setCell (Nat.le_refl _) _).setCell (Nat.le_refl _) _).setCell (Nat.le_refl _) _⟩
  | some x =>
    have hk2 := cnt_in h2
    have hx0 := cnt_bd h2
    rw [h2, Option.getD_some, Option.isSome_some] at HP2
    have HG7 : Hid (∀ W, Below w.heap.size w W → W.cell? ⟨g, 7, none⟩ = some (.int .i64 (ws.getD 2 wd0).2.1)) := fun W hW => HG.out 7 _ (hw.pos 2 hk2) W hW
    have HPS2 : Hid (posL ws 2 e = (ws.getD 2 wd0).2.1) := by unfold posL; rw [if_pos hk2]; rfl
    have hk2c : (2 : Int) < ws.length := by omega
    by_cases hx : 4000 < x
    case pos =>
      rw [show headL ws = (0, 0, .lim 2) by rw [HH.out, h2]; simp [hx]]
      clear HX2 HX3 HP3 HNO hv hw h2 HH
      show Calls _ _ _ _ (fun r w' => r = .returned (.tuple #[.int .i64 0, .int .i64 0, .agg #[.int .i64 102, .bool true, .int .i64 (posL ws 2 e)]]) ∧ Below w.heap.size w w')
      rw [HPS2.out]
      generalize (ws.getD 2 wd0).2.1 = ps at *
      generalize ws.length = n at *
      go_enter Tryz.func28, Tryz.ntmps28
      go_wp2_with (first
        | (go_at_call_of 59 (Value.int IntKind.i64 (2 : Int)); refine (HP2.out _ (HBW.out _)).mono ?_; rintro e2 w2 ⟨rfl, hp2⟩; have hq2 := (HBW.out _).trans (hp2.mono (by simp)); have g7 := HG7.out _ hq2)
        | (go_at_call 21; refine (HPL.out _ _).mono ?_; rintro e2 w9 ⟨rfl, hb9⟩; have hbf := hq2.trans (hb9.mono hq2.size); obtain ⟨hc, hf⟩ := bcell (hp2.trans (hb9.mono hp2.size))))
      exact bodyPost_ret (v := .tuple #[.int .i64 0, .int .i64 0, .agg #[.int .i64 102, .bool true, .int .i64 ps]]) (by simp [results, Tryz.results28, go_sem, hc]) rfl ⟨rfl, ((hbf.setCell (Nat.le_refl _) _).setCell (Nat.le_refl _) _).setCell (Nat.le_refl _) _⟩
    case neg =>
    have hxb : decide (4000 < x) = false := by simpa using hx
    cases h3 : cntL ws 3 with
    | none =>
      rw [h3, Option.getD_none, Option.isSome_none] at HP3
      rw [show headL ws = (0, 0, .text 3) by rw [HH.out, h2, h3]; simp [hx]]
      clear HX2 HPL HNO hv hw h2 h3 HH HPS2 HG7 hx
      show Calls _ _ _ _ (fun r w' => r = .returned (.tuple #[.int .i64 0, .int .i64 0, .agg #[.int .i64 101, .bool true, .int .i64 (posL ws 3 e)]]) ∧ Below w.heap.size w w')
      simp only [Flt.code, Flt.placed, Flt.pos] at HX3
      generalize posL ws 3 e = ps at *
      generalize ws.length = n at *
      go_enter Tryz.func28, Tryz.ntmps28
      go_wp2_with (first
        | (go_at_call_of 59 (Value.int IntKind.i64 (2 : Int)); refine (HP2.out _ (HBW.out _)).mono ?_; rintro e2 w2 ⟨rfl, hp2⟩; have hq2 := (HBW.out _).trans (hp2.mono (by simp)))
        | (go_at_call_of 59 (Value.int IntKind.i64 (3 : Int)); refine (HP3.out _ hq2).mono ?_; rintro e2 w3 ⟨rfl, hp3⟩; have hq3 := hq2.trans (hp3.mono hq2.size); have hz3 := hp2.trans (hp3.mono hp2.size))
        | (go_at_call 29; refine (HX3.out _ hq3).mono ?_; rintro e2 w9 ⟨rfl, hb9⟩; have hbf := hq3.trans (hb9.mono hq3.size); obtain ⟨hc, hf⟩ := bcell (hz3.trans (hb9.mono hz3.size))))
      exact bodyPost_ret (v := .tuple #[.int .i64 0, .int .i64 0, .agg #[.int .i64 101, .bool true, .int .i64 ps]]) (by simp [results, Tryz.results28, go_sem, hc]) rfl ⟨rfl, ((hbf.setCell (Nat.le_refl _) _).setCell (Nat.le_refl _) _).setCell (Nat.le_refl _) _⟩
    | some y =>
      have hk3 := cnt_in h3
      have hy0 := cnt_bd h3
      rw [h3, Option.getD_some, Option.isSome_some] at HP3
      have HG10 : Hid (∀ W, Below w.heap.size w W → W.cell? ⟨g, 10, none⟩ = some (.int .i64 (ws.getD 3 wd0).2.1)) := fun W hW => HG.out 10 _ (hw.pos 3 hk3) W hW
      have HPS3 : Hid (posL ws 3 e = (ws.getD 3 wd0).2.1) := by unfold posL; rw [if_pos hk3]; rfl
      have hk3c : (3 : Int) < ws.length := by omega
      by_cases hy : 20000 < y
      case pos =>
        rw [show headL ws = (0, 0, .lim 3) by rw [HH.out, h2, h3]; simp [hx, hy]]
        clear HX2 HX3 HNO hv hw h2 h3 HH HPS2 HG7 hx
        show Calls _ _ _ _ (fun r w' => r = .returned (.tuple #[.int .i64 0, .int .i64 0, .agg #[.int .i64 102, .bool true, .int .i64 (posL ws 3 e)]]) ∧ Below w.heap.size w w')
        rw [HPS3.out]
        generalize (ws.getD 3 wd0).2.1 = ps at *
        generalize ws.length = n at *
        go_enter Tryz.func28, Tryz.ntmps28
        go_wp2_with (first
          | (go_at_call_of 59 (Value.int IntKind.i64 (2 : Int)); refine (HP2.out _ (HBW.out _)).mono ?_; rintro e2 w2 ⟨rfl, hp2⟩; have hq2 := (HBW.out _).trans (hp2.mono (by simp)))
          | (go_at_call_of 59 (Value.int IntKind.i64 (3 : Int)); refine (HP3.out _ hq2).mono ?_; rintro e2 w3 ⟨rfl, hp3⟩; have hq3 := hq2.trans (hp3.mono hq2.size); have hz3 := hp2.trans (hp3.mono hp2.size); have g10 := HG10.out _ hq3)
          | (go_at_call 21; refine (HPL.out _ _).mono ?_; rintro e2 w9 ⟨rfl, hb9⟩; have hbf := hq3.trans (hb9.mono hq3.size); obtain ⟨hc, hf⟩ := bcell (hz3.trans (hb9.mono hz3.size))))
        exact bodyPost_ret (v := .tuple #[.int .i64 0, .int .i64 0, .agg #[.int .i64 102, .bool true, .int .i64 ps]]) (by simp [results, Tryz.results28, go_sem, hc]) rfl ⟨rfl, ((hbf.setCell (Nat.le_refl _) _).setCell (Nat.le_refl _) _).setCell (Nat.le_refl _) _⟩
      case neg =>
        rw [show headL ws = (x, y, .ok) by rw [HH.out, h2, h3]; simp [hx, hy]]
        have hyb : decide (20000 < y) = false := by simpa using hy
        clear HX2 HX3 HPL hv hw h2 h3 HH HPS2 HPS3 HG7 HG10 hx hy
        show Calls _ _ _ _ (fun r w' => r = .returned (.tuple #[.int .i64 x, .int .i64 y, .agg #[.int .i64 0, .bool false, .int .i64 0]]) ∧ Below w.heap.size w w')
        generalize ws.length = n at *
        go_enter Tryz.func28, Tryz.ntmps28
        go_wp2_with (first
          | (go_at_call_of 59 (Value.int IntKind.i64 (2 : Int)); refine (HP2.out _ (HBW.out _)).mono ?_; rintro e2 w2 ⟨rfl, hp2⟩; have hq2 := (HBW.out _).trans (hp2.mono (by simp)))
          | (go_at_call_of 59 (Value.int IntKind.i64 (3 : Int)); refine (HP3.out _ hq2).mono ?_; rintro e2 w3 ⟨rfl, hp3⟩; have hq3 := hq2.trans (hp3.mono hq2.size); have hz3 := hp2.trans (hp3.mono hp2.size))
          | (go_at_call 42; refine (HNO.out _).mono ?_; rintro e2 w9 ⟨rfl, hb9⟩; have hbf := hq3.trans (hb9.mono hq3.size); obtain ⟨hc, hf⟩ := bcell (hz3.trans (hb9.mono hz3.size))))
        exact bodyPost_ret (v := .tuple #[.int .i64 x, .int .i64 y, .agg #[.int .i64 0, .bool false, .int .i64 0]]) (by simp [results, Tryz.results28, go_sem, hc]) rfl ⟨rfl, ((hbf.setCell (Nat.le_refl _) _).setCell (Nat.le_refl _) _).setCell (Nat.le_refl _) _⟩
end Go.Proofs.YtfoohdknjacenaaGreatDoor
