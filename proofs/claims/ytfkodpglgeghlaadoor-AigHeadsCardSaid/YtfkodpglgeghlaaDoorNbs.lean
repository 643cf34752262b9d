/- Contracts of the reader's number and just. Conditions: the reader lies as 'RdM' says, its words are some bytes each; the errors lie as 'Sents' says. -/
import Derived.Test.YtfkodpglgeghlaaDoorNbr
namespace Go.Proofs.YtfkodpglgeghlaaDoor
open Go.RowKit

set_option maxHeartbeats 4000000 in
theorem numb_word (A : Nat → Addr) (p g : Nat) (e most : Int) (first : Bool) (x : Wd) (ws : List Wd) (w : World) (h : RdM w p g e (x :: ws)) (hS : SentsP A p w) (hx : x.2.2 = first) (hok : x.1 ≠ [] ∧ Bts x.1 ∧ x.1.length ≤ 4000000) :
    Calls Tryd.prog 57 #[.pointer (some ⟨p, 0, none⟩), .bool first, .int .i64 most] w (NumbP A w p g e (numbR first most e (x :: ws))) := by
  have hpl : p < w.heap.size := h.2.2.2.1
  have hgl : g < w.heap.size := h.2.2.2.2.1
  have HB0 := Lib.hid ((Below.refl w.heap.size w).alloc (Nat.le_refl _) (.cells #[.int .i64 0, .int .i64 0] 94))
  have HN := Lib.hid (next_ok A p g e first x ws _ (h.chg HB0.out) hx)
  have HSP := Lib.hid (fun W (hW : Chg [p] w W) => (hS.chg hW).here)
  have HT := Lib.hid (fun W => at_any A x.2.1 0 W)
  have HNM := Lib.hid (fun W => num_any x.1 W hok.2.1 hok.2.2)
  have HPX := Lib.hid (fun W => hasPrefix_any 45 x.1 W hok.2.1 hok.1 hok.2.2)
  have HNX := Lib.hid (nextR_ok (e := e) (ws := ws) hx)
  have HBD := Lib.hid (fun n (h : numL x.1 = some n) => numL_bd h)
  have HRN := Lib.hid (fun (h : numU x.1 = none) => numbR_none (most := most) HNX.out h)
  have HRB := Lib.hid (fun n (h : numU x.1 = some n) (h2 : most < n) => numbR_big HNX.out h h2)
  have HRO := Lib.hid (fun n (h : numU x.1 = some n) (h2 : ¬ most < n) => numbR_ok HNX.out h h2)
  have HUU := Lib.hid (show numU x.1 = if x.1.head? = some 45 then none else numL x.1 from rfl)
  have HWV : Hid (wordV x = .agg #[.string (strOfNums x.1), .int .i64 (x.2.1 : Nat), .bool x.2.2]) := rfl
  unfold NumPost at HNM
  clear h hS hok hx HNX
  generalize numbR first most e (x :: ws) = R at *
  generalize numU x.1 = un at *
  generalize numL x.1 = nn at *
  rw [show (UInt8.toNat 45 : Int) = 45 from rfl] at HPX
  have HUN : Hid (un = if decide (x.1.head? = some 45) = true then none else nn) := by unfold Hid; rw [HUU.out]; simp
  generalize decide (x.1.head? = some 45) = sg at *
  generalize ((x.2.1 : Nat) : Int) = xq at *
  clear HUU
  generalize strOfNums x.1 = xs at *
  generalize x.2.2 = xf at *
  have HLATE : Hid (∀ w1 w2, Chg [p] (w.alloc (.cells #[.int .i64 0, .int .i64 0] 94)) w1 → Below (w1.alloc (.cells #[.string xs, .int .i64 xq, .bool xf] 91)).heap.size (w1.alloc (.cells #[.string xs, .int .i64 xq, .bool xf] 91)) w2 →
      (w2.cell? ⟨w.heap.size, 0, none⟩ = some (.int .i64 0) ∧ w2.cell? ⟨w.heap.size, 1, none⟩ = some (.int .i64 0) ∧ ∀ o, w2.frozen? ⟨w.heap.size, o, none⟩ = false) ∧
      (w2.cell? ⟨w1.heap.size, 0, none⟩ = some (.string xs) ∧ w2.cell? ⟨w1.heap.size, 1, none⟩ = some (.int .i64 xq)) ∧ Chg [p] w w2 ∧ w.heap.size < w2.heap.size ∧ w1.heap.size < w2.heap.size ∧ (w2.cell? ⟨1, 0, none⟩ = some (.iface 135 (.pointer (some (A 0)))) ∧ 1 < w2.heap.size)) := fun w1 w2 hch hb => by
    have hs := hch.size
    simp at hs
    have hs2 := hb.size
    simp at hs2
    have hcw : Chg [p] w w1 := (Chg.of_below HB0.out).trans hch (by intro i hi; exact .inl (by simpa using hi))
    have hcw2 : Chg [p] w w2 := (hcw.alloc _).trans (T := [p]) (Chg.of_below hb) (Fresh.refl _ _)
    have hk : Chg [p] (w.alloc (.cells #[.int .i64 0, .int .i64 0] 94)) w2 := (hch.alloc _).trans (T := [p]) (Chg.of_below hb) (Fresh.refl _ _)
    have hnp : w.heap.size ∉ [p] := by simp; omega
    have c0 := (HSP.out w2 hcw2).c0
    refine ⟨⟨(hk.cell (by simp) hnp).trans (by rw [World.cell?_alloc_at _ _ _ _ (by simp)]; rfl), (hk.cell (by simp) hnp).trans (by rw [World.cell?_alloc_at _ _ _ _ (by simp)]; rfl), fun o => (hk.frz (by simp) hnp).trans (World.frozen?_alloc_at _ _ _ _ (by simp))⟩, ⟨?_, ?_⟩, hcw2, by omega, by omega, c0, World.block_lt_of_cell? w2 _ c0⟩
    · rw [hb.cell (p := ⟨w1.heap.size, 0, none⟩) (by simp), World.cell?_alloc_at _ _ _ _ (by simp)]; rfl
    · rw [hb.cell (p := ⟨w1.heap.size, 1, none⟩) (by simp), World.cell?_alloc_at _ _ _ _ (by simp)]; rfl
  cases nn with
  | none =>
    have hun : un = none := by rw [HUN.out]; cases sg <;> rfl
    have HR := Lib.hid (HRN.out hun)
    clear HRN HRB HRO HUN hun HPX
    simp only [Option.getD_none, Option.isSome_none] at HNM
    rw [HR.out]
    go_enter Tryd.func57, Tryd.ntmps57
    go_wp2_with fail
    refine HN.out.mono ?_
    rintro e1 w1 ⟨rfl, hr, hch⟩
    rw [HWV.out]
    clear hr
    go_wp2_with fail
    refine (HNM.out _).mono ?_
    rintro e2 w2 ⟨rfl, hb2⟩
    obtain ⟨⟨q0, q1, qf⟩, ⟨k0, k1⟩, hcw, hs1, hs2, hx0, hxl⟩ := HLATE.out w1 w2 hch hb2
    have hz0 : 0 < w2.heap.size := by omega
    have hfin := fun W (hW : Below w2.heap.size w2 W) => fin2 (W := W) (q := w.heap.size) ((hW.cell (p := ⟨w.heap.size, 0, none⟩) hs1).trans q0) ((hW.cell (p := ⟨w.heap.size, 1, none⟩) hs1).trans q1)
    have HFIN := Lib.hid hfin; clear hfin
    have HHB : Hid (∀ W, Below w2.heap.size w2 W → (∀ o, W.cell? ⟨w.heap.size, o, none⟩ = w2.cell? ⟨w.heap.size, o, none⟩) ∧ (∀ o, W.frozen? ⟨w.heap.size, o, none⟩ = false) ∧ w.heap.size < W.heap.size) := fun W hW => ⟨fun o => hW.cell (p := ⟨w.heap.size, o, none⟩) hs1, fun o => (hW.frozen (p := ⟨w.heap.size, o, none⟩) hs1).trans (qf o), by have := hW.size; omega⟩
    clear hch hb2
    go_wp2_with (go_at_call 38; refine (HT.out _).mono ?_; rintro e3 w3 ⟨⟨ev, rfl, hat⟩, hb3⟩; obtain ⟨hc3, hf3, hs3⟩ := HHB.out w3 hb3; have hfin := HFIN.out w3 hb3)
    exact bodyPost_ret (v := .tuple #[cntV 0 0, ev]) (by simp [results, Tryd.results57, go_sem, cntV, hfin]) rfl ⟨_, rfl, ((hat.set _ _ _ hs1).set _ _ _ hs1).mono (by omega), ((hcw.trans (T := [p]) (Chg.of_below hb3) (Fresh.refl _ _)).setCell (.inr (Nat.le_refl _)) _).setCell (.inr (Nat.le_refl _)) _⟩
  | some n =>
    simp only [Option.getD_some, Option.isSome_some] at HNM
    obtain ⟨n1, n2⟩ := HBD.out n rfl
    cases sg with
    | true =>
      have HR := Lib.hid (HRN.out HUN.out)
      clear HRN HRB HRO HUN HBD
      rw [HR.out]
      go_enter Tryd.func57, Tryd.ntmps57
      go_wp2_with fail
      refine HN.out.mono ?_
      rintro e1 w1 ⟨rfl, hr, hch⟩
      rw [HWV.out]
      clear hr
      go_wp2_with fail
      refine (HNM.out _).mono ?_
      rintro e2 w2 ⟨rfl, hb2⟩
      obtain ⟨⟨q0, q1, qf⟩, ⟨k0, k1⟩, hcw, hs1, hs2, hx0, hxl⟩ := HLATE.out w1 w2 hch hb2
      have hz0 : 0 < w2.heap.size := by omega
      have hfin := fun W (hW : Below w2.heap.size w2 W) => fin2 (W := W) (q := w.heap.size) ((hW.cell (p := ⟨w.heap.size, 0, none⟩) hs1).trans q0) ((hW.cell (p := ⟨w.heap.size, 1, none⟩) hs1).trans q1)
      have HFIN := Lib.hid hfin; clear hfin
      have HHB : Hid (∀ W, Below w2.heap.size w2 W → (∀ o, W.cell? ⟨w.heap.size, o, none⟩ = w2.cell? ⟨w.heap.size, o, none⟩) ∧ (∀ o, W.frozen? ⟨w.heap.size, o, none⟩ = false) ∧ w.heap.size < W.heap.size) := fun W hW => ⟨fun o => hW.cell (p := ⟨w.heap.size, o, none⟩) hs1, fun o => (hW.frozen (p := ⟨w.heap.size, o, none⟩) hs1).trans (qf o), by have := hW.size; omega⟩
      clear hch hb2
      go_wp2_with (first | (go_at_call 76; refine (HPX.out _).mono ?_; rintro e4 w4 ⟨rfl, rfl⟩) | (go_at_call 38; refine (HT.out _).mono ?_; rintro e3 w3 ⟨⟨ev, rfl, hat⟩, hb3⟩; obtain ⟨hc3, hf3, hs3⟩ := HHB.out w3 hb3; have hfin := HFIN.out w3 hb3))
      exact bodyPost_ret (v := .tuple #[cntV 0 0, ev]) (by simp [results, Tryd.results57, go_sem, cntV, hfin]) rfl ⟨_, rfl, ((hat.set _ _ _ hs1).set _ _ _ hs1).mono (by omega), ((hcw.trans (T := [p]) (Chg.of_below hb3) (Fresh.refl _ _)).setCell (.inr (Nat.le_refl _)) _).setCell (.inr (Nat.le_refl _)) _⟩
    | false =>
      by_cases hm : most < n
      · have HR := Lib.hid (HRB.out n HUN.out hm)
        clear HRN HRB HRO HUN HBD
        rw [HR.out]
        go_enter Tryd.func57, Tryd.ntmps57
        go_wp2_with fail
        refine HN.out.mono ?_
        rintro e1 w1 ⟨rfl, hr, hch⟩
        rw [HWV.out]
        clear hr
        go_wp2_with fail
        refine (HNM.out _).mono ?_
        rintro e2 w2 ⟨rfl, hb2⟩
        obtain ⟨⟨q0, q1, qf⟩, ⟨k0, k1⟩, hcw, hs1, hs2, hx0, hxl⟩ := HLATE.out w1 w2 hch hb2
        have hz0 : 0 < w2.heap.size := by omega
        have hfin := fun W (hW : Below w2.heap.size w2 W) => fin2 (W := W) (q := w.heap.size) ((hW.cell (p := ⟨w.heap.size, 0, none⟩) hs1).trans q0) ((hW.cell (p := ⟨w.heap.size, 1, none⟩) hs1).trans q1)
        have HFIN := Lib.hid hfin; clear hfin
        have HHB : Hid (∀ W, Below w2.heap.size w2 W → (∀ o, W.cell? ⟨w.heap.size, o, none⟩ = w2.cell? ⟨w.heap.size, o, none⟩) ∧ (∀ o, W.frozen? ⟨w.heap.size, o, none⟩ = false) ∧ w.heap.size < W.heap.size) := fun W hW => ⟨fun o => hW.cell (p := ⟨w.heap.size, o, none⟩) hs1, fun o => (hW.frozen (p := ⟨w.heap.size, o, none⟩) hs1).trans (qf o), by have := hW.size; omega⟩
        clear hch hb2
        go_wp2_with (first | (go_at_call 76; refine (HPX.out _).mono ?_; rintro e4 w4 ⟨rfl, rfl⟩) | (go_at_call 38; refine (HT.out _).mono ?_; rintro e3 w3 ⟨⟨ev, rfl, hat⟩, hb3⟩; obtain ⟨hc3, hf3, hs3⟩ := HHB.out w3 hb3; have hfin := HFIN.out w3 hb3))
        exact bodyPost_ret (v := .tuple #[cntV 0 0, ev]) (by simp [results, Tryd.results57, go_sem, cntV, hfin]) rfl ⟨_, rfl, ((hat.set _ _ _ hs1).set _ _ _ hs1).mono (by omega), ((hcw.trans (T := [p]) (Chg.of_below hb3) (Fresh.refl _ _)).setCell (.inr (Nat.le_refl _)) _).setCell (.inr (Nat.le_refl _)) _⟩
      · have HR := Lib.hid (HRO.out n HUN.out hm)
        clear HRN HRB HRO HUN HBD
        rw [HR.out]
        go_enter Tryd.func57, Tryd.ntmps57
        go_wp2_with fail
        refine HN.out.mono ?_
        rintro e1 w1 ⟨rfl, hr, hch⟩
        rw [HWV.out]
        go_wp2_with fail
        refine (HNM.out _).mono ?_
        rintro e2 w2 ⟨rfl, hb2⟩
        obtain ⟨⟨q0, q1, qf⟩, ⟨k0, k1⟩, hcw, hs1, hs2, hx0, hxl⟩ := HLATE.out w1 w2 hch hb2
        have hz0 : 0 < w2.heap.size := by omega
        have hfin := fun W (hW : Below w2.heap.size w2 W) => fin2 (W := W) (q := w.heap.size) ((hW.cell (p := ⟨w.heap.size, 0, none⟩) hs1).trans q0) ((hW.cell (p := ⟨w.heap.size, 1, none⟩) hs1).trans q1)
        have HFIN := Lib.hid hfin; clear hfin
        have HHB : Hid (∀ W, Below w2.heap.size w2 W → (∀ o, W.cell? ⟨w.heap.size, o, none⟩ = w2.cell? ⟨w.heap.size, o, none⟩) ∧ (∀ o, W.frozen? ⟨w.heap.size, o, none⟩ = false) ∧ w.heap.size < W.heap.size) := fun W hW => ⟨fun o => hW.cell (p := ⟨w.heap.size, o, none⟩) hs1, fun o => (hW.frozen (p := ⟨w.heap.size, o, none⟩) hs1).trans (qf o), by have := hW.size; omega⟩
        have HRD : Hid (∀ x y, RdM ((w2.setCell ⟨w.heap.size, 0, none⟩ x).setCell ⟨w.heap.size, 1, none⟩ y) p g e ws) := fun x y => ((((hr.chg ((Below.refl _ _).alloc (Nat.le_refl _) _)).chg hb2).set (by omega) (by omega)).set (by omega) (by omega))
        clear hch hb2 hr
        go_wp2_with (go_at_call 76; refine (HPX.out _).mono ?_; rintro e4 w4 ⟨rfl, rfl⟩)
        have hfin := HFIN.out w2 (Below.refl _ _)
        exact bodyPost_ret (v := .tuple #[cntV n xq, .nilIface]) (by simp [results, Tryd.results57, go_sem, cntV, hfin]) rfl ⟨rfl, HRD.out _ _, (hcw.setCell (.inr (Nat.le_refl _)) _).setCell (.inr (Nat.le_refl _)) _⟩
end Go.Proofs.YtfkodpglgeghlaaDoor
