/- Contracts of the reader's gate and behind. Conditions: the reader lies as 'RdM' says, its words are some bytes each; the errors lie as 'Sents' says. -/
import Derived.Test.YtfkodpglgeghlaaDoorJst
namespace Go.Proofs.YtfkodpglgeghlaaDoor
open Go.RowKit

theorem numbR_rest {e most : Int} {first : Bool} {ws ws' : List Wd} {y : Int × Int} (h : numbR first most e ws = .got y ws') (hok : WOk ws) : WOk ws' ∧ 0 ≤ y.1 ∧ y.1 < 1000000000 ∧ y.1 ≤ most := by
  obtain ⟨x, hx, _, _, _, h0, h1, h2⟩ := numbR_got h
  exact ⟨(hx ▸ hok : WOk (x :: ws')).tail, h0, h1, h2⟩
theorem justR_rest {e n : Int} {ws ws' : List Wd} {u : Unit} (h : justR n e ws = .got u ws') (hok : WOk ws) : WOk ws' := by
  obtain ⟨x, hx, _, _⟩ := justR_got h
  exact (hx ▸ hok : WOk (x :: ws')).tail
theorem gateR_rest {e n : Int} {ws ws' : List Wd} {y : Int × Int} (h : gateR n e ws = .got y ws') (hok : WOk ws) : WOk ws' := by
  unfold gateR at h
  cases hj : justR (2 * n) e ws with
  | bad k => rw [hj] at h; cases h
  | got u r1 =>
    rw [hj] at h
    simp only at h
    cases ha : numbR false (2 * n - 1) e r1 with
    | bad k => rw [ha] at h; cases h
    | got a r2 =>
      rw [ha] at h
      simp only at h
      cases hb : numbR false a.1 e r2 with
      | bad k => rw [hb] at h; cases h
      | got b r3 =>
        rw [hb] at h
        injection h with _ h
        subst h
        exact (numbR_rest hb (numbR_rest ha (justR_rest hj hok)).1).1
/-- A result's two cells, and what a step of the reader leaves of them. -/
theorem res2 {p : Nat} {w W : World} {u v : Value} {T : TypeId} (hp : p < w.heap.size) (hc : Chg [p] (w.alloc (.cells #[u, v] T)) W) :
    W.cell? ⟨w.heap.size, 0, none⟩ = some u ∧ W.cell? ⟨w.heap.size, 1, none⟩ = some v ∧ (∀ o, W.frozen? ⟨w.heap.size, o, none⟩ = false) ∧ w.heap.size < W.heap.size ∧ Chg [p] w W := by
  have hs := hc.size
  simp at hs
  have hnp : w.heap.size ∉ [p] := by simp; omega
  exact ⟨(hc.cell (by simp) hnp).trans (by rw [World.cell?_alloc_at _ _ _ _ (by simp)]; rfl), (hc.cell (by simp) hnp).trans (by rw [World.cell?_alloc_at _ _ _ _ (by simp)]; rfl), fun o => (hc.frz (by simp) hnp).trans (World.frozen?_alloc_at _ _ _ _ (by simp)), by omega, Chg.old ((Below.refl _ _).alloc (Nat.le_refl _) _) hc⟩

set_option maxHeartbeats 4000000 in
theorem gate_any (A : Nat → Addr) (p g : Nat) (e n : Int) (ws : List Wd) (w : World) (h : RdM w p g e ws) (hS : SentsP A p w) (hok : WOk ws) (hn0 : 0 ≤ n) (hn1 : n ≤ 1000000) :
    Calls Tryd.prog 58 #[.pointer (some ⟨p, 0, none⟩), .int .i64 n] w (NumbP A w p g e (gateR n e ws)) := by
  have hpl : p < w.heap.size := h.2.2.2.1
  have hgl : g < w.heap.size := h.2.2.2.2.1
  have HB0 := Lib.hid ((Below.refl w.heap.size w).alloc (Nat.le_refl _) (.cells #[.int .i64 0, .int .i64 0] 48))
  have HL := Lib.hid (fun W => literal_any n W (by omega) (by omega))
  have HJ := Lib.hid (just_any A p g e (2 * n) ws _ (h.chg HB0.out) (hS.chg (Chg.of_below HB0.out)) hok)
  have HQ := Lib.hid (fun W hW => res2 (W := W) (u := .int .i64 0) (v := .int .i64 0) (T := 48) hpl hW)
  have HNB := Lib.hid (fun most ws' W (hr : RdM W p g e ws') (hW : Chg [p] w W) (hok : WOk ws') => numb_any A p g e most false ws' W hr (hS.chg hW) hok)
  clear h hS
  have hd : 2 * n - 1 ≤ 100000000 := by omega
  unfold gateR
  cases hj : justR (2 * n) e ws with
  | bad k =>
    rw [hj] at HJ
    simp only
    go_enter Tryd.func58, Tryd.ntmps58
    go_wp2_with (go_at_call 42; refine (HL.out _).mono ?_; rintro e4 w4 ⟨rfl, rfl⟩)
    go_at_call 56
    refine HJ.out.mono ?_
    rintro e1 w1 ⟨ev, rfl, hat, hch⟩
    obtain ⟨q0, q1, qf, hs, hcw⟩ := HQ.out w1 hch
    have HAT := Lib.hid hat
    obtain ⟨b, hB, rfl, k0, k1⟩ := hat
    have hfin := fin2 (W := w1) (q := w.heap.size) q0 q1
    clear k0 k1
    go_wp2_with fail
    exact bodyPost_ret (v := .tuple #[cntV 0 0, .iface 73 (.pointer (some ⟨b, 0, none⟩))]) (by simp [results, Tryd.results58, go_sem, cntV, hfin]) rfl ⟨_, rfl, ((HAT.out.set _ _ _ (by simp)).set _ _ _ (by simp)).mono (by simp), (hcw.setCell (.inr (Nat.le_refl _)) _).setCell (.inr (Nat.le_refl _)) _⟩
  | got u r1 =>
    rw [hj] at HJ
    have hok1 := justR_rest hj hok
    clear hj
    simp only
    cases ha : numbR false (2 * n - 1) e r1 with
    | bad k =>
      have HN1 := Lib.hid (fun W hr hW => HNB.out (2 * n - 1) r1 W hr hW hok1)
      rw [ha] at HN1
      simp only
      go_enter Tryd.func58, Tryd.ntmps58
      go_wp2_with (go_at_call 42; refine (HL.out _).mono ?_; rintro e4 w4 ⟨rfl, rfl⟩)
      go_at_call 56
      refine HJ.out.mono ?_
      rintro e1 w1 ⟨rfl, hr, hch⟩
      obtain ⟨q0, q1, qf, hl1, hcw1⟩ := HQ.out w1 hch
      go_wp2_with (go_at_call 42; refine (HL.out _).mono ?_; rintro e4 w4 ⟨rfl, rfl⟩)
      go_at_call 57
      refine (HN1.out w1 hr hcw1).mono ?_
      rintro e2 w2 ⟨ev, rfl, hat, hch2⟩
      have hch2 := hch.more hch2
      clear q0 q1 qf
      unfold cntV
      obtain ⟨q0, q1, qf, hs, hcw⟩ := HQ.out w2 hch2
      have HAT := Lib.hid hat
      obtain ⟨b, hB, rfl, k0, k1⟩ := hat
      have hfin := fin2 (W := w2) (q := w.heap.size) q0 q1
      clear k0 k1
      go_wp2_with fail
      exact bodyPost_ret (v := .tuple #[cntV 0 0, .iface 73 (.pointer (some ⟨b, 0, none⟩))]) (by simp [results, Tryd.results58, go_sem, cntV, hfin]) rfl ⟨_, rfl, (((HAT.out.set _ _ _ hl1).set _ _ _ hl1).keep ((Below.refl _ _).alloc (Nat.le_refl _) _)).mono (by omega), ((hcw.setCell (.inr (Nat.le_refl _)) _).setCell (.inr (Nat.le_refl _)) _).alloc _⟩
    | got a r2 =>
      have HN1 := Lib.hid (fun W hr hW => HNB.out (2 * n - 1) r1 W hr hW hok1)
      rw [ha] at HN1
      obtain ⟨hok2, ha0, ha1, _⟩ := numbR_rest ha hok1
      obtain ⟨an, ap⟩ := a
      simp only at ha0 ha1
      clear ha
      simp only
      have HN2 := Lib.hid (fun W hr hW => HNB.out an r2 W hr hW hok2)
      cases hb : numbR false an e r2 with
      | bad k =>
        rw [hb] at HN2
        simp only
        go_enter Tryd.func58, Tryd.ntmps58
        go_wp2_with (go_at_call 42; refine (HL.out _).mono ?_; rintro e4 w4 ⟨rfl, rfl⟩)
        go_at_call 56
        refine HJ.out.mono ?_
        rintro e1 w1 ⟨rfl, hr, hch⟩
        obtain ⟨q0, q1, qf, hl1, hcw1⟩ := HQ.out w1 hch
        go_wp2_with (go_at_call 42; refine (HL.out _).mono ?_; rintro e4 w4 ⟨rfl, rfl⟩)
        go_at_call 57
        refine (HN1.out w1 hr hcw1).mono ?_
        rintro e2 w2 ⟨rfl, hr2, hch2⟩
        have hcX := hch.more hch2
        clear q0 q1 qf hch2
        obtain ⟨q0, q1, qf, hl2, hcw2⟩ := HQ.out w2 hcX
        have HR2 := Lib.hid (hr2.chg ((Below.refl _ _).alloc (Nat.le_refl _) (.cells #[.int .i64 an, .int .i64 ap] 94)))
        unfold cntV
        go_wp2_with fail
        go_at_call 57
        refine (HN2.out _ HR2.out (hcw2.alloc _)).mono ?_
        rintro e3 w3 ⟨ev, rfl, hat, hch3⟩
        have hch3 := (hcX.alloc _).more hch3
        have hat := hat.mono (show w2.heap.size ≤ _ by simp)
        clear q0 q1 qf
        unfold cntV
        obtain ⟨q0, q1, qf, hs, hcw⟩ := HQ.out w3 hch3
        have HAT := Lib.hid hat
        obtain ⟨b, hB, rfl, k0, k1⟩ := hat
        have hfin := fin2 (W := w3) (q := w.heap.size) q0 q1
        clear k0 k1
        go_wp2_with fail
        exact bodyPost_ret (v := .tuple #[cntV 0 0, .iface 73 (.pointer (some ⟨b, 0, none⟩))]) (by simp [results, Tryd.results58, go_sem, cntV, hfin]) rfl ⟨_, rfl, (((HAT.out.set _ _ _ hl2).set _ _ _ hl2).keep ((Below.refl _ _).alloc (Nat.le_refl _) _)).mono (by omega), ((hcw.setCell (.inr (Nat.le_refl _)) _).setCell (.inr (Nat.le_refl _)) _).alloc _⟩
      | got b r3 =>
        rw [hb] at HN2
        obtain ⟨bn, bp⟩ := b
        clear hb
        simp only
        go_enter Tryd.func58, Tryd.ntmps58
        go_wp2_with (go_at_call 42; refine (HL.out _).mono ?_; rintro e4 w4 ⟨rfl, rfl⟩)
        go_at_call 56
        refine HJ.out.mono ?_
        rintro e1 w1 ⟨rfl, hr, hch⟩
        obtain ⟨q0, q1, qf, hl1, hcw1⟩ := HQ.out w1 hch
        go_wp2_with (go_at_call 42; refine (HL.out _).mono ?_; rintro e4 w4 ⟨rfl, rfl⟩)
        go_at_call 57
        refine (HN1.out w1 hr hcw1).mono ?_
        rintro e2 w2 ⟨rfl, hr2, hch2⟩
        have hcX := hch.more hch2
        clear q0 q1 qf hch2
        obtain ⟨q0, q1, qf, hl2, hcw2⟩ := HQ.out w2 hcX
        have HR2 := Lib.hid (hr2.chg ((Below.refl _ _).alloc (Nat.le_refl _) (.cells #[.int .i64 an, .int .i64 ap] 94)))
        have hpl2 : p < w2.heap.size := by omega
        unfold cntV
        go_wp2_with fail
        go_at_call 57
        refine (HN2.out _ HR2.out (hcw2.alloc _)).mono ?_
        rintro e3 w3 ⟨rfl, hr3, hch3⟩
        obtain ⟨y0, y1, yf, hl3, _⟩ := res2 hpl2 hch3
        have hch3 := (hcX.alloc _).more hch3
        clear q0 q1 qf
        obtain ⟨q0, q1, qf, hs, hcw⟩ := HQ.out w3 hch3
        have hfin := fin2 (W := w3) (q := w.heap.size) q0 q1
        have HRD : Hid (∀ x y o, RdM (((w3.setCell ⟨w.heap.size, 0, none⟩ x).setCell ⟨w.heap.size, 1, none⟩ y).alloc o) p g e r3) := fun x y o => ((hr3.set (by omega) (by omega)).set (by omega) (by omega)).chg ((Below.refl _ _).alloc (Nat.le_refl _) _)
        clear hr3 hr2 hr
        unfold cntV
        go_wp2_with fail
        exact bodyPost_ret (v := .tuple #[cntV an bn, .nilIface]) (by simp [results, Tryd.results58, go_sem, cntV, hfin]) rfl ⟨rfl, HRD.out _ _ _, ((hcw.setCell (.inr (Nat.le_refl _)) _).setCell (.inr (Nat.le_refl _)) _).alloc _⟩

def BehP (A : Nat → Addr) (w : World) (p : Nat) (R : Option Int) (r : Ending) (w' : World) : Prop :=
  match R with
  | some k => ∃ ev, r = .returned ev ∧ AtB A w.heap.size w' ev k 0 ∧ Chg [p] w w'
  | none => r = .returned .nilIface ∧ Chg [p] w w'

set_option maxHeartbeats 2000000 in
theorem behind_nil (A : Nat → Addr) (p g : Nat) (e : Int) (w : World) (h : RdM w p g e []) :
    Calls Tryd.prog 59 #[.pointer (some ⟨p, 0, none⟩)] w (BehP A w p none) := by
  obtain ⟨⟨a, c, h0, _, hcm, _⟩, h1, hf, hpl, _, _⟩ := h
  simp only [List.length_nil] at h0
  clear hf
  go_enter Tryd.func59, Tryd.ntmps59
  go_wp2_with fail
  go_ret
  exact ⟨rfl, Chg.refl _ _⟩

set_option maxHeartbeats 2000000 in
theorem behind_word (A : Nat → Addr) (p g : Nat) (e : Int) (x : Wd) (ws : List Wd) (w : World) (h : RdM w p g e (x :: ws)) (hS : SentsP A p w) (hok : x.1 ≠ [] ∧ Bts x.1 ∧ x.1.length ≤ 4000000) :
    Calls Tryd.prog 59 #[.pointer (some ⟨p, 0, none⟩)] w (BehP A w p (tailR (x :: ws))) := by
  have HN := Lib.hid (next_all A p g e true (x :: ws) w h hS)
  have HSP := Lib.hid (fun W (hW : Chg [p] w W) => (hS.chg hW).here)
  have HPX := Lib.hid (fun W => hasPrefix_any 99 x.1 W hok.2.1 hok.1 hok.2.2)
  have HT := Lib.hid (fun W => at_any A x.2.1 0 W)
  rw [show (UInt8.toNat 99 : Int) = 99 from rfl] at HPX
  obtain ⟨⟨a, c, h0, hcl, hcm, _⟩, _, _, hpl, _, _⟩ := h
  simp only [List.length_cons] at h0 hcl
  clear hS hok
  by_cases hx : x.2.2 = true
  · rw [nextR_ok hx] at HN
    have HWV : Hid (wordV x = .agg #[.string (strOfNums x.1), .int .i64 (x.2.1 : Nat), .bool x.2.2]) := rfl
    by_cases hc : x.1.head? = some 99
    · rw [show tailR (x :: ws) = none from if_pos ⟨hx, hc⟩]
      rw [hc] at HPX
      simp only [decide_true] at HPX
      clear hx hc
      generalize ((x.2.1 : Nat) : Int) = xq at *
      generalize strOfNums x.1 = xs at *
      generalize x.2.2 = xf at *
      generalize ws.length = n at *
      have hn1 : ((n : Int) + 1 == 0) = false := by simp; omega
      go_enter Tryd.func59, Tryd.ntmps59
      go_wp2_with fail
      refine HN.out.mono ?_
      rintro e1 w1 ⟨rfl, hr, hch⟩
      rw [HWV.out]
      clear hr
      go_wp2_with (go_at_call 76; refine (HPX.out _).mono ?_; rintro e4 w4 ⟨rfl, rfl⟩)
      go_ret
      exact ⟨rfl, hch.alloc _⟩
    · rw [show tailR (x :: ws) = some (x.2.1 : Int) from if_neg (fun h => hc h.2)]
      rw [show decide (x.1.head? = some 99) = false from decide_eq_false hc] at HPX
      clear hx hc
      generalize ((x.2.1 : Nat) : Int) = xq at *
      generalize strOfNums x.1 = xs at *
      generalize x.2.2 = xf at *
      generalize ws.length = n at *
      have hn1 : ((n : Int) + 1 == 0) = false := by simp; omega
      go_enter Tryd.func59, Tryd.ntmps59
      go_wp2_with fail
      refine HN.out.mono ?_
      rintro e1 w1 ⟨rfl, hr, hch⟩
      rw [HWV.out]
      clear hr
      have hx0 := (HSP.out w1 hch).c0
      have hxl : 1 < w1.heap.size := World.block_lt_of_cell? w1 _ hx0
      have hz0 : 0 < w1.heap.size := by omega
      have hsz := hch.size
      go_wp2_with (first | (go_at_call 76; refine (HPX.out _).mono ?_; rintro e4 w4 ⟨rfl, rfl⟩) | (go_at_call 38; refine (HT.out _).mono ?_; rintro e3 w3 ⟨⟨ev, rfl, hat⟩, hb3⟩))
      go_ret
      exact ⟨_, rfl, hat.mono (by simp; omega), (hch.alloc _).still hb3⟩
  · rw [nextR_bad hx] at HN
    rw [show tailR (x :: ws) = some (x.2.1 : Int) from if_neg (fun h => hx h.1)]
    clear hx
    generalize ((x.2.1 : Nat) : Int) = xq at *
    generalize ws.length = n at *
    have hn1 : ((n : Int) + 1 == 0) = false := by simp; omega
    go_enter Tryd.func59, Tryd.ntmps59
    go_wp2_with fail
    refine HN.out.mono ?_
    rintro e1 w1 ⟨ev, rfl, hat, hb⟩
    have HAT := Lib.hid hat
    obtain ⟨b, hB, rfl, k0, k1⟩ := hat
    clear k0 k1
    unfold wordZ
    go_wp2_with fail
    go_ret
    exact ⟨_, rfl, HAT.out.keep ((Below.refl _ _).alloc (Nat.le_refl _) _), (Chg.of_below hb).alloc _⟩

theorem behind_any (A : Nat → Addr) (p g : Nat) (e : Int) (ws : List Wd) (w : World) (h : RdM w p g e ws) (hS : SentsP A p w) (hok : WOk ws) :
    Calls Tryd.prog 59 #[.pointer (some ⟨p, 0, none⟩)] w (BehP A w p (tailR ws)) := by
  cases ws with
  | nil => exact behind_nil A p g e w h
  | cons x ws => exact behind_word A p g e x ws w h hS (hok x (by simp))
end Go.Proofs.YtfkodpglgeghlaaDoor
