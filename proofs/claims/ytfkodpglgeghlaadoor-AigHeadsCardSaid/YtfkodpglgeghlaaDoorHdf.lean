/- Contract of the reader's head, behind its name. Conditions: the reader lies as 'RdM' says, its words are some bytes each; the errors lie as 'Sents' says. -/
import Derived.Test.YtfkodpglgeghlaaDoorHdn
namespace Go.Proofs.YtfkodpglgeghlaaDoor
open Go.RowKit

theorem headP_some {A : Nat → Addr} {w w' : World} {p g : Nat} {e : Int} {hs : List (Int × Int)} {ws : List Wd} {f : Bool × Int} {ev : Value} (hck : checkR hs = some f) (h1 : AtB A w.heap.size w' ev f.2 (if f.1 = true then 1 else 0)) (h2 : Chg [p] w w') : HeadP A w p g e (.got hs ws) (.returned (.tuple #[headV hs, ev])) w' := by
  unfold HeadP
  simp only [hck]
  exact ⟨ev, rfl, h1, h2⟩
theorem headP_none {A : Nat → Addr} {w w' : World} {p g : Nat} {e : Int} {hs : List (Int × Int)} {ws : List Wd} (hck : checkR hs = none) (h1 : RdM w' p g e ws) (h2 : Chg [p] w w') : HeadP A w p g e (.got hs ws) (.returned (.tuple #[headV hs, .nilIface])) w' := by
  unfold HeadP
  simp only [hck]
  exact ⟨trivial, h1, h2⟩
theorem HC.five {W : World} {q : Nat} {hs : List (Int × Int)} (h : HC W q hs) : (W.cell? ⟨q, 0, none⟩ = some (.int .i64 (hn hs 0)) ∧ W.cell? ⟨q, 1, none⟩ = some (.int .i64 (hp hs 0))) ∧ (W.cell? ⟨q, 2, none⟩ = some (.int .i64 (hn hs 1)) ∧ W.cell? ⟨q, 3, none⟩ = some (.int .i64 (hp hs 1))) ∧
    (W.cell? ⟨q, 4, none⟩ = some (.int .i64 (hn hs 2)) ∧ W.cell? ⟨q, 5, none⟩ = some (.int .i64 (hp hs 2))) ∧ (W.cell? ⟨q, 6, none⟩ = some (.int .i64 (hn hs 3)) ∧ W.cell? ⟨q, 7, none⟩ = some (.int .i64 (hp hs 3))) ∧ (W.cell? ⟨q, 8, none⟩ = some (.int .i64 (hn hs 4)) ∧ W.cell? ⟨q, 9, none⟩ = some (.int .i64 (hp hs 4))) :=
  ⟨h.1 0 (by decide), h.1 1 (by decide), h.1 2 (by decide), h.1 3 (by decide), h.1 4 (by decide)⟩
theorem set10_rdm {W : World} {p g q : Nat} {e : Int} {ws : List Wd} {hs : List (Int × Int)} (h : RdM W p g e ws) (h1 : q ≠ p) (h2 : q ≠ g) : RdM (set10 W q hs) p g e ws :=
  (((((((((h.set h1 h2).set h1 h2).set h1 h2).set h1 h2).set h1 h2).set h1 h2).set h1 h2).set h1 h2).set h1 h2).set h1 h2

set_option maxHeartbeats 8000000 in
theorem head_five (A : Nat → Addr) (p g : Nat) (e : Int) (x : Wd) (ws : List Wd) (w : World) (h : RdM w p g e (x :: ws)) (hS : SentsP A p w) (hx : x.2.2 = true) (hok : WOk ws) (hxe : x.1 = [97, 97, 103]) :
    Calls Tryd.prog 55 #[.pointer (some ⟨p, 0, none⟩)] w (HeadP A w p g e (fiveR e 5 ws [])) := by
  have hpl : p < w.heap.size := h.2.2.2.1
  have hgl : g < w.heap.size := h.2.2.2.2.1
  have HB0 := Lib.hid ((Below.refl w.heap.size w).alloc (Nat.le_refl _) zero10)
  have HN := Lib.hid (next_ok A p g e true x ws _ (h.chg HB0.out) hx)
  have HC0 := Lib.hid (HC.start w 96)
  have HSP := Lib.hid (fun W (hW : Chg [p] w W) => (hS.chg hW).here)
  have HNB := Lib.hid (fun ws' W (hr : RdM W p g e ws') (hW : Chg [p] w W) (hok : WOk ws') => numb_any A p g e 9223372036854775807 false ws' W hr (hS.chg hW) hok)
  have HBD := Lib.hid (fun r ws' => fiveR_bound (e := e) 5 ws [] r ws' (fun j => by simp [hn]) hok)
  have HLN := Lib.hid (fun r ws' => fiveR_len (e := e) 5 ws [] r ws')
  have HWV : Hid (wordV x = .agg #[.string ⟨#[97, 97, 103]⟩, .int .i64 (x.2.1 : Nat), .bool x.2.2]) := by unfold Hid wordV; rw [hxe, aag_str]
  have HOK := Lib.hid hok
  have HCK := Lib.hid (fun hs W (hW : Chg [p] w W) => check_any A hs W (hS.chg hW).here)
  clear h hS hok hx hxe
  generalize hFF : fiveR e 5 ws [] = F at *
  have HF0 := Lib.hid hFF; clear hFF
  generalize ((x.2.1 : Nat) : Int) = xq at *
  generalize x.2.2 = xf at *
  unfold zero10 at *
  go_enter Tryd.func55, Tryd.ntmps55
  go_wp2_with fail
  refine HN.out.mono ?_
  rintro e1 w1 ⟨rfl, hr, hch⟩
  rw [HWV.out]
  have hsz := hch.size
  simp at hsz
  have HQ6 : Hid (w1.heap.size + 1 ≠ p ∧ w1.heap.size + 1 ≠ g ∧ w.heap.size + 1 ≤ w1.heap.size) := ⟨by omega, by omega, hsz⟩
  have HS0 : Hid (RdM ((w1.alloc (.cells #[.string ⟨#[97, 97, 103]⟩, .int .i64 xq, .bool xf] 91)).alloc (.cells #[.int .i64 0, .int .i64 0, .int .i64 0, .int .i64 0, .int .i64 0, .int .i64 0, .int .i64 0, .int .i64 0, .int .i64 0, .int .i64 0] 96)) p g e ws ∧ HC ((w1.alloc (.cells #[.string ⟨#[97, 97, 103]⟩, .int .i64 xq, .bool xf] 91)).alloc (.cells #[.int .i64 0, .int .i64 0, .int .i64 0, .int .i64 0, .int .i64 0, .int .i64 0, .int .i64 0, .int .i64 0, .int .i64 0, .int .i64 0] 96)) (w1.heap.size + 1) [] ∧
      Chg [p] (w.alloc (.cells #[.int .i64 0, .int .i64 0, .int .i64 0, .int .i64 0, .int .i64 0, .int .i64 0, .int .i64 0, .int .i64 0, .int .i64 0, .int .i64 0] 96)) ((w1.alloc (.cells #[.string ⟨#[97, 97, 103]⟩, .int .i64 xq, .bool xf] 91)).alloc (.cells #[.int .i64 0, .int .i64 0, .int .i64 0, .int .i64 0, .int .i64 0, .int .i64 0, .int .i64 0, .int .i64 0, .int .i64 0, .int .i64 0] 96))) := by
    refine ⟨(hr.chg ((Below.refl _ _).alloc (Nat.le_refl _) _)).chg ((Below.refl _ _).alloc (Nat.le_refl _) _), ?_, (hch.alloc _).alloc _⟩
    have := HC.start (w1.alloc (.cells #[.string ⟨#[97, 97, 103]⟩, .int .i64 xq, .bool xf] 91)) 96
    simpa using this
  clear hr hch
  go_wp2_with fail
  go_loopw [5, 7, 25] (fun _ _ i wr => ∃ (k : Nat) (hs : List (Int × Int)) (rest : List Wd), k ≤ 5 ∧ i = .int .i64 k ∧ Hid (hs.length = k ∧ RdM wr p g e rest ∧ HC wr (w1.heap.size + 1) hs ∧ Chg [p] (w.alloc (.cells #[.int .i64 0, .int .i64 0, .int .i64 0, .int .i64 0, .int .i64 0, .int .i64 0, .int .i64 0, .int .i64 0, .int .i64 0, .int .i64 0] 96)) wr ∧ WOk rest ∧ fiveR e (5 - k) rest hs = F)) (fun _ _ i _ => 5 - (intOf i).toNat)
  case atStart => exact ⟨0, [], ws, by omega, rfl, rfl, HS0.out.1, HS0.out.2.1, HS0.out.2.2, HOK.out, HF0.out⟩
  case round =>
    obtain ⟨k, hs, rest, hk, rfl, HH⟩ := hrel
    clear HS0
    by_cases hlt : k < 5
    · obtain ⟨hlk, hrd, hhc, hch, hokr, hfr⟩ := HH.out
      have hcw := Chg.old HB0.out hch
      have HNX := Lib.hid (HNB.out rest wr hrd hcw hokr)
      obtain ⟨r, hr5⟩ : ∃ r, 5 - k = r + 1 := ⟨5 - k - 1, by omega⟩
      rw [hr5, fiveR] at hfr
      cases hnx : numbR false maxI e rest with
      | bad q =>
        rw [show numbR false 9223372036854775807 e rest = .bad q from hnx] at HNX
        rw [hnx] at hfr
        simp only at hfr
        have HF := Lib.hid hfr.symm
        clear hfr hnx hr5 hlk HNB HF0 HCK HLN HBD HN HSP HOK HH hrd hokr
        have hsw := hch.size
        simp at hsw
        have HQS : Hid (∀ w3, Chg [p] wr w3 → (HC w3 w.heap.size [] ∧ Chg [p] w w3 ∧ w.heap.size < w3.heap.size) ∧ (HC w3 (w1.heap.size + 1) hs)) := fun w3 h3 => ⟨⟨(HC0.out.chg hch (by simp; omega)).chg h3 (by simp; omega), hcw.more h3, by have := h3.size; omega⟩, hhc.chg h3 (by have := HQ6.out; simp; omega)⟩
        have hq6 := hhc.2.2
        clear hch hcw hhc
        go_wp2_with fail
        refine HNX.out.mono ?_
        rintro e3 w3 ⟨ev, rfl, hat, hch3⟩
        have HAT := Lib.hid hat
        obtain ⟨b, hB, rfl, k0, k1⟩ := hat
        obtain ⟨⟨hq3, hc3, hs3⟩, hh3⟩ := HQS.out w3 hch3
        obtain ⟨x0, x1⟩ := hh3.1 k hlt
        have xf3 := hh3.2.1
        have xs3 := hh3.2.2
        have HQ3 := Lib.hid hq3
        have HH3 := Lib.hid hh3
        obtain ⟨hc, hf, _⟩ := hq3
        have c0 := hc 0 (by decide)
        have c1 := hc 1 (by decide)
        have c2 := hc 2 (by decide)
        have c3 := hc 3 (by decide)
        have c4 := hc 4 (by decide)
        simp [hn, hp] at c0 c1 c2 c3 c4
        have HC3 := Lib.hid hc3
        clear k0 k1 hch3 hc hh3 hc3
        have hqq := HQ6.out.2.2
        unfold cntV
        go_wp2_with fail
        have hset : Chg [w1.heap.size + 1] w3 ((w3.setCell ⟨w1.heap.size + 1, k * 2, none⟩ (.int .i64 0)).setCell ⟨w1.heap.size + 1, k * 2 + 1, none⟩ (.int .i64 0)) := ((Chg.refl _ _).setCell (.inl (by simp)) _).setCell (.inl (by simp)) _
        rw [HF.out]
        exact bodyPost_ret (v := .tuple #[headV [], .iface 73 (.pointer (some ⟨b, 0, none⟩))]) (res10 (set10_cells (hs := []) (HQ3.out.chg hset (by simp; omega))) rfl rfl) rfl
          ⟨_, rfl, ((set10_at (hs := []) (HAT.out.keep2 hset hq6) (by omega)).mono (by omega)), set10_chg (hs := []) ((HC3.out.setCell (.inr (by show w.heap.size ≤ w1.heap.size + 1; omega)) _).setCell (.inr (by show w.heap.size ≤ w1.heap.size + 1; omega)) _) (.inr (Nat.le_refl _))⟩
      | got y rest' =>
        rw [show numbR false 9223372036854775807 e rest = .got y rest' from hnx] at HNX
        rw [hnx] at hfr
        simp only at hfr
        obtain ⟨hokr', _, _, _⟩ := numbR_rest hnx hokr
        obtain ⟨yn, yp⟩ := y
        have hsw := hch.size
        simp at hsw
        have HQS : Hid (∀ w3, RdM w3 p g e rest' → Chg [p] wr w3 → (HC w3 (w1.heap.size + 1) hs) ∧ ∃ (k' : Nat) (hs' : List (Int × Int)) (rest'' : List Wd), k' ≤ 5 ∧ Value.int .i64 ((k : Int) + 1) = .int .i64 k' ∧ Hid (hs'.length = k' ∧ RdM ((w3.setCell ⟨w1.heap.size + 1, k * 2, none⟩ (.int .i64 yn)).setCell ⟨w1.heap.size + 1, k * 2 + 1, none⟩ (.int .i64 yp)) p g e rest'' ∧ HC ((w3.setCell ⟨w1.heap.size + 1, k * 2, none⟩ (.int .i64 yn)).setCell ⟨w1.heap.size + 1, k * 2 + 1, none⟩ (.int .i64 yp)) (w1.heap.size + 1) hs' ∧ Chg [p] (w.alloc (.cells #[.int .i64 0, .int .i64 0, .int .i64 0, .int .i64 0, .int .i64 0, .int .i64 0, .int .i64 0, .int .i64 0, .int .i64 0, .int .i64 0] 96)) ((w3.setCell ⟨w1.heap.size + 1, k * 2, none⟩ (.int .i64 yn)).setCell ⟨w1.heap.size + 1, k * 2 + 1, none⟩ (.int .i64 yp)) ∧ WOk rest'' ∧ fiveR e (5 - k') rest'' hs' = F)) := fun w3 hr3 h3 => by
          obtain ⟨q1, q2, q3⟩ := HQ6.out
          refine ⟨hhc.chg h3 (by simp; omega), k + 1, hs ++ [(yn, yp)], rest', by omega, by simp, by simp [hlk], (hr3.set q1 q2).set q1 q2, (hhc.chg h3 (by simp; omega)).set k hlk hlt yn yp, ((hch.more h3).setCell (.inr (by simp; omega)) _).setCell (.inr (by simp; omega)) _, hokr', ?_⟩
          rw [show 5 - (k + 1) = r by omega]; exact hfr
        clear hfr hnx hr5 hlk HNB HF0 HCK HLN HBD HN HSP HOK HH hrd hokr hch hcw hhc hokr'
        go_wp2_with fail
        refine HNX.out.mono ?_
        rintro e3 w3 ⟨rfl, hr3, hch3⟩
        obtain ⟨hh3, HREL⟩ := HQS.out w3 hr3 hch3
        obtain ⟨x0, x1⟩ := hh3.1 k hlt
        have xf3 := hh3.2.1
        have xs3 := hh3.2.2
        have HRL := Lib.hid HREL
        clear hr3 hch3 hh3 HREL
        unfold cntV
        go_wp2_with fail
        go_roundw
        case rel => exact HRL.out
        case measure => simp [intOf]; omega
    · have hk5 : k = 5 := by omega
      subst hk5
      obtain ⟨hlk, hrd, hhc, hch, hokr, hfr⟩ := HH.out
      have hF : F = .got hs rest := hfr.symm
      obtain ⟨hbd, _⟩ := HBD.out hs rest hF
      have hcw := Chg.old HB0.out hch
      have HCK' := Lib.hid (fun W (hW : Chg [p] w W) => HCK.out hs W hW (hbd 1).1 (hbd 1).2 (hbd 4).1 (hbd 4).2)
      unfold ChkP headV at HCK'
      have hsw := hch.size
      simp at hsw
      have HQS : Hid (∀ w3, Below wr.heap.size wr w3 → (HC w3 w.heap.size [] ∧ HC w3 (w1.heap.size + 1) hs ∧ Chg [p] w w3 ∧ RdM w3 p g e rest)) := fun w3 h3 => ⟨(HC0.out.chg hch (by simp; omega)).chg (S := []) (Chg.of_below h3) (by simp), hhc.chg (S := []) (Chg.of_below h3) (by simp), hcw.still h3, hrd.chg h3⟩
      have HF := Lib.hid hF
      have hqq := HQ6.out.2.2
      have hqp : w.heap.size ≠ p ∧ w.heap.size ≠ g := by omega
      have HQP := Lib.hid hqp
      obtain ⟨hc, _, xs3⟩ := hhc
      have c0 := hc 0 (by decide)
      have c1 := hc 1 (by decide)
      have c2 := hc 2 (by decide)
      have c3 := hc 3 (by decide)
      have c4 := hc 4 (by decide)
      simp only [Nat.zero_mul, Nat.one_mul, Nat.zero_add, Nat.reduceMul, Nat.reduceAdd] at c0 c1 c2 c3 c4
      obtain ⟨c0, d0⟩ := c0
      obtain ⟨c1, d1⟩ := c1
      obtain ⟨c2, d2⟩ := c2
      obtain ⟨c3, d3⟩ := c3
      obtain ⟨c4, d4⟩ := c4
      clear hfr hlk HNB HF0 HCK HLN HBD HN HSP HOK HH hrd hokr hch hc hlt hF hbd hqp
      have HCW := Lib.hid hcw
      clear hcw
      cases hck : checkR hs with
      | none =>
        rw [hck] at HCK'
        have HCX := Lib.hid hck; clear hck
        go_wp2_with fail
        go_region_with (go_at_call 74; refine (HCK'.out _ (by first | exact HCW.out | exact HCW.out.drew)).mono ?_; rintro e3 w3 ⟨rfl, hb3⟩; obtain ⟨hq3, hh3, hc3, hr3⟩ := HQS.out w3 (by first | exact hb3 | exact (Below.refl _ _).drew.trans hb3); have HQ3 := Lib.hid hq3; have HH3 := Lib.hid hh3; have HR3 := Lib.hid (set10_rdm (hs := hs) hr3 HQP.out.1 HQP.out.2); have HC3 := Lib.hid hc3; obtain ⟨hc, hf, hs3⟩ := hq3; have b0 := hc 0 (by decide); have b1 := hc 1 (by decide); have b2 := hc 2 (by decide); have b3 := hc 3 (by decide); have b4 := hc 4 (by decide); simp [hn, hp] at b0 b1 b2 b3 b4; clear hc hh3 hr3 hc3; obtain ⟨⟨x0, y0⟩, ⟨x1, y1⟩, ⟨x2, y2⟩, ⟨x3, y3⟩, ⟨x4, y4⟩⟩ := HH3.out.five; clear hb3)
        all_goals
          go_wp2_with fail
          rw [HF.out]
          exact bodyPost_ret (v := .tuple #[headV hs, .nilIface]) (res10 (set10_cells (hs := hs) HQ3.out) rfl rfl) rfl (headP_none HCX.out HR3.out (set10_chg (hs := hs) HC3.out (.inr (Nat.le_refl _))))
      | some f =>
        rw [hck] at HCK'
        have HCX := Lib.hid hck; clear hck
        go_wp2_with fail
        go_region_with (go_at_call 74; refine (HCK'.out _ (by first | exact HCW.out | exact HCW.out.drew)).mono ?_; rintro e3 w3 ⟨ev, rfl, hat, hb3⟩; have HAT := Lib.hid hat; clear hat; obtain ⟨hq3, hh3, hc3, hr3⟩ := HQS.out w3 (by first | exact hb3 | exact (Below.refl _ _).drew.trans hb3); have HQ3 := Lib.hid hq3; have HH3 := Lib.hid hh3; have HR3 := Lib.hid (set10_rdm (hs := hs) hr3 HQP.out.1 HQP.out.2); have HC3 := Lib.hid hc3; obtain ⟨hc, hf, hs3⟩ := hq3; have b0 := hc 0 (by decide); have b1 := hc 1 (by decide); have b2 := hc 2 (by decide); have b3 := hc 3 (by decide); have b4 := hc 4 (by decide); simp [hn, hp] at b0 b1 b2 b3 b4; clear hc hh3 hr3 hc3; obtain ⟨⟨x0, y0⟩, ⟨x1, y1⟩, ⟨x2, y2⟩, ⟨x3, y3⟩, ⟨x4, y4⟩⟩ := HH3.out.five; clear hb3)
        all_goals
          go_wp2_with fail
          rw [HF.out]
          exact bodyPost_ret (v := .tuple #[headV hs, ev]) (res10 (set10_cells (hs := hs) HQ3.out) rfl rfl) rfl (headP_some HCX.out ((set10_at (hs := hs) HAT.out (by simp; omega)).mono (by simp; omega)) (set10_chg (hs := hs) HC3.out (.inr (Nat.le_refl _))))

theorem head_any (A : Nat → Addr) (p g : Nat) (e : Int) (ws : List Wd) (w : World) (h : RdM w p g e ws) (hS : SentsP A p w) (hok : WOk ws) :
    Calls Tryd.prog 55 #[.pointer (some ⟨p, 0, none⟩)] w (HeadP A w p g e (headR e ws)) := by
  cases hR : nextR true e ws with
  | bad k => rw [show headR e ws = .bad k by unfold headR; rw [hR]]; exact head_next A p g e ws w h hS k hR
  | got x ws' =>
    cases ws with
    | nil => cases hR
    | cons y ws =>
      have hx : y.2.2 = true := by
        by_cases hx : y.2.2 = true
        · exact hx
        · rw [nextR_bad hx] at hR; cases hR
      have hy : headR e (y :: ws) = if y.1 = [97, 97, 103] then fiveR e 5 ws [] else .bad y.2.1 := by unfold headR; rw [nextR_ok hx]
      rw [hy]
      by_cases hn : y.1 = [97, 97, 103]
      · rw [if_pos hn]; exact head_five A p g e y ws w h hS hx hok.tail hn
      · rw [if_neg hn]; exact head_name A p g e y ws w h hS hx (hok y (by simp)).2.1 hn
end Go.Proofs.YtfkodpglgeghlaaDoor
