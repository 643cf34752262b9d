/- The contract of prefix.Norm (the walk). Conditions: the formula reads as blocks and clauses, not too many; the three errors lie as 'Sents3' says. -/
import Derived.Test.YtcodmijphejfdaaDoorNormS
import Derived.Laws.ResultCell
namespace Go.Proofs.YtcodmijphejfdaaDoor
open Go.RowKit

set_option maxHeartbeats 4000000 in
set_option maxRecDepth 100000 in
theorem normG_bad (A : Nat → Addr) (vars : Int) (q : Option Addr) (d : Nat) (bs : List Blk) (a : Option Addr) (c : Nat) (xss : List (List Int)) (w : World) (hS : Sents3 w A) (hv1 : -9223372036854775808 ≤ vars) (hv2 : vars ≤ 9223372036854775807) (hq : BRowsAt w q d bs) (hr : RowsAt w a c xss)
    (hint : ∀ xs ∈ xss, ∀ l ∈ xs, -9223372036854775807 ≤ l ∧ l ≤ 9223372036854775807) (hlen : ∀ xs ∈ xss, xs.length < 1000000000) (hwb : ∀ v ∈ varsB bs, -9223372036854775808 ≤ v ∧ v ≤ 9223372036854775807)
    (hn1 : (varsB bs).length ≤ 400000000) (hn2 : xss.flatten.length ≤ 400000000) (hnb : bs.length ≤ 999999) (hnx : xss.length ≤ 1000000000) (hbad : (∃ c p k, CheckFF vars bs xss c p k ∧ c ≠ 0) ∨ 2 < (gameL bs xss).length) :
    Calls Tryd.prog 7 #[.agg #[.slice q bs.length d, .int .i64 vars, .slice a xss.length c]] w (NormPost A w vars bs xss) := by
  have HCK := Lib.hid (fun W (hW : Below w.heap.size w W) => checkFm_any A vars q d bs a c xss W (hS.keep hW) hv1 hv2 (hq.keep hW) (hr.keep hW) hint hlen)
  have HFR := Lib.hid (fun W (hW : Below w.heap.size w W) => free_any vars q d bs a c xss W (hq.keep hW) (hr.keep hW) hint hwb (by omega) (by omega))
  have HCO := Lib.hid (fun W fv (hW : Below w.heap.size w W) (hf : Row W fv (freeL bs xss)) => concat_lit W fv _ q d bs hf (hq.keep hW) (by omega) 22)
  have hfl := free_len bs xss
  have HME := Lib.hid (fun W a' c' (h : BRowsAt W a' c' ((true, freeL bs xss) :: bs)) => merge_any a' c' _ W h (by simp; omega) (by simp [varsB] at hn1 ⊢; omega))
  have HCP := Lib.hid (fun W (hW : Below w.heap.size w W) => copies_any a c xss W (hr.keep hW) hnx (fun xs h => Nat.le_of_lt (hlen xs h)))
  have HBOX : Hid (∀ W, Below ((w.alloc (.cells #[.slice q bs.length d, .int .i64 vars, .slice a xss.length c] 27)).alloc (.cells #[.bool false, .slice none 0 0, .slice none 0 0, .slice none 0 0] 32)).heap.size ((w.alloc (.cells #[.slice q bs.length d, .int .i64 vars, .slice a xss.length c] 27)).alloc (.cells #[.bool false, .slice none 0 0, .slice none 0 0, .slice none 0 0] 32)) W →
      (W.cell? ⟨w.heap.size, 0, none⟩ = some (.slice q bs.length d) ∧ W.cell? ⟨w.heap.size, 1, none⟩ = some (.int .i64 vars) ∧ W.cell? ⟨w.heap.size, 2, none⟩ = some (.slice a xss.length c)) ∧
      ((W.cell? ⟨w.heap.size + 1, 0, none⟩ = some (.bool false) ∧ W.cell? ⟨w.heap.size + 1, 1, none⟩ = some (.slice none 0 0) ∧ W.cell? ⟨w.heap.size + 1, 2, none⟩ = some (.slice none 0 0) ∧ W.cell? ⟨w.heap.size + 1, 3, none⟩ = some (.slice none 0 0)) ∧
        W.frozen? ⟨w.heap.size + 1, 0, none⟩ = false ∧ W.frozen? ⟨w.heap.size + 1, 1, none⟩ = false ∧ W.frozen? ⟨w.heap.size + 1, 2, none⟩ = false ∧ W.frozen? ⟨w.heap.size + 1, 3, none⟩ = false) ∧ Below w.heap.size w W) := fun W h => norm_box w W q _ d vars a _ c h
  have HW2 : Hid (Below w.heap.size w ((w.alloc (.cells #[.slice q bs.length d, .int .i64 vars, .slice a xss.length c] 27)).alloc (.cells #[.bool false, .slice none 0 0, .slice none 0 0, .slice none 0 0] 32))) := ((Below.refl _ w).alloc (Nat.le_refl _) _).alloc (by simp) _
  have s4 := hS.c4
  have z4 : 0 < w.heap.size := World.block_lt_of_cell? w _ s4
  have HS4 : Hid (∀ W, Below w.heap.size w W → W.cell? ⟨0, 0, none⟩ = some (.iface 149 (.pointer (some (A 4))))) := fun W hW => (hW.cell (p := ⟨0, 0, none⟩) z4).trans s4
  have HPOST := Lib.hid (show ∀ e w', (∃ gv ev, e = .returned (.tuple #[gv, ev]) ∧ Below w.heap.size w w' ∧
    ((∃ c p k, c ≠ 0 ∧ CheckFF vars bs xss c p k ∧ ErrR A w' ev c p k ∧ gv = zeroG) ∨
      (CheckFF vars bs xss 0 false 0 ∧ 2 < (gameL bs xss).length ∧ ev = sentV A 4 ∧ gv = zeroG) ∨
      (CheckFF vars bs xss 0 false 0 ∧ (gameL bs xss).length ≤ 2 ∧ ev = .nilIface ∧ GameV w' gv (exG (gameL bs xss)) (outG (gameL bs xss)) (inG (gameL bs xss)) xss))) → NormPost A w vars bs xss e w' from fun e w' h => h)
  unfold ChkPost at HCK
  clear hS s4 hq hr hint hlen hwb hn1 hn2 hnb hnx hfl
  generalize hP : NormPost A w vars bs xss = P at *
  clear hP
  have HSAME := Lib.hid (fun c p k (h : CheckFF vars bs xss c p k) c' p' k' (h' : CheckFF vars bs xss c' p' k') => checkFF_same h h')
  by_cases hne : ∃ c p k, CheckFF vars bs xss c p k ∧ c ≠ 0
  · have HNE := Lib.hid hne; clear hne
    have HERR : Hid (∀ W ev cc p k, Below ((w.alloc (.cells #[.slice q bs.length d, .int .i64 vars, .slice a xss.length c] 27)).alloc (.cells #[.bool false, .slice none 0 0, .slice none 0 0, .slice none 0 0] 32)).heap.size ((w.alloc (.cells #[.slice q bs.length d, .int .i64 vars, .slice a xss.length c] 27)).alloc (.cells #[.bool false, .slice none 0 0, .slice none 0 0, .slice none 0 0] 32)) W → cc ≠ 0 → CheckFF vars bs xss cc p k → ErrR A W ev cc p k → P (.returned (.tuple #[zeroG, ev])) (sets4 W (w.heap.size + 1) (.bool false) (.slice none 0 0) (.slice none 0 0) (.slice none 0 0))) := fun W ev cc p k hW h0 h1 h2 =>
      HPOST.out _ _ ⟨_, _, rfl, sets4_below (HBOX.out _ hW).2.2 (Nat.le_succ _), .inl ⟨cc, p, k, h0, h1, h2.sets (HBOX.out _ hW).2.1.1.1, rfl⟩⟩
    have HIF : Hid (∀ W ev cc p k, cc ≠ 0 → ErrR A W ev cc p k → ∃ t u, ev = .iface t u) := fun W ev cc p k h0 h => by
      rcases h with ⟨h, _⟩ | ⟨i, _, _, ⟨_, _, h⟩ | ⟨_, b, h, _⟩⟩
      · exact absurd h h0
      · exact ⟨_, _, h⟩
      · exact ⟨_, _, h⟩
    generalize bs.length = n at *
    generalize xss.length = m at *
    go_enter Tryd.func7, Tryd.ntmps7
    go_wp2_with (go_at_call 25; refine (HCK.out _ HW2.out).mono ?_; rintro e w1 ⟨ev, c0, p0, k0, rfl, hcf, hef, hz, hb1⟩; have hc0 : c0 ≠ 0 := (by obtain ⟨c', p', k', h1, h2⟩ := HNE.out; rw [(HSAME.out _ _ _ h1 _ _ _ hcf).1]; exact h2); obtain ⟨t, u, rfl⟩ := HIF.out _ _ _ _ _ hc0 hef; obtain ⟨⟨x0, x1, x2⟩, ⟨⟨y0, y1, y2, y3⟩, f0, f1, f2, f3⟩, hbw1⟩ := HBOX.out _ hb1)
    exact bodyPost_ret (v := .tuple #[zeroG, .iface t u]) (norm_ret _ (w.heap.size + 1) _ _ _ _ _ _ rfl rfl (sets4_same y0 y1 y2 y3 _ _ _ _)) rfl (HERR.out _ _ _ _ _ hb1 hc0 hcf hef)
  · have HZ : Hid (∀ c p k, CheckFF vars bs xss c p k → c = 0) := fun c p k h => by
      by_cases h0 : c = 0
      · exact h0
      · exact absurd ⟨c, p, k, h, h0⟩ hne
    have HC00 : Hid (∀ c p k, CheckFF vars bs xss c p k → c = 0 → CheckFF vars bs xss 0 false 0) := fun c p k h h0 => by
      rcases h with ⟨h1, _⟩ | ⟨h1, h2⟩
      · exact absurd h0 h1
      · rcases h2 with ⟨h3, _⟩ | ⟨i, _, h3, _⟩
        · exact .inr ⟨h1, .inl ⟨h3, rfl, rfl, rfl⟩⟩
        · omega
    have hnb2 := hne
    clear hne HSAME
    rw [show gameL bs xss = mergeL ((true, freeL bs xss) :: bs) from rfl] at HPOST hbad
    generalize freeL bs xss = fl at *
    generalize mergeL ((true, fl) :: bs) = ms at *
    have HLT : Hid (∀ W, Below ((w.alloc (.cells #[.slice q bs.length d, .int .i64 vars, .slice a xss.length c] 27)).alloc (.cells #[.bool false, .slice none 0 0, .slice none 0 0, .slice none 0 0] 32)).heap.size ((w.alloc (.cells #[.slice q bs.length d, .int .i64 vars, .slice a xss.length c] 27)).alloc (.cells #[.bool false, .slice none 0 0, .slice none 0 0, .slice none 0 0] 32)) W → w.heap.size + 1 < W.heap.size) := fun W h => by
      have := h.size
      simp at this
      omega
    generalize (true, fl) :: bs = cs at *
    generalize cs.length = L at *
    generalize hnn : bs.length = n at *
    generalize hmm : xss.length = m at *
    have HMM := Lib.hid hmm; clear hmm hnn
    by_cases h2 : 2 < ms.length
    · have HBAD : Hid (∀ W, Below w.heap.size w W → CheckFF vars bs xss 0 false 0 → P (.returned (.tuple #[zeroG, sentV A 4])) W) := fun W hW h =>
        HPOST.out _ _ ⟨_, _, rfl, hW, .inr (.inl ⟨h, h2, rfl, rfl⟩)⟩
      have hd : decide ((2 : Int) < (ms.length : Int)) = true := decide_eq_true (by omega)
      have hd' : decide (2 < ms.length) = true := decide_eq_true h2
      go_enter Tryd.func7, Tryd.ntmps7
      go_wp2_with (first
        | (go_at_call 25; refine (HCK.out _ HW2.out).mono ?_; rintro e w1 ⟨ev, c0, p0, k0, rfl, hcf, hef, hz, hb1⟩; have hc0 := HZ.out _ _ _ hcf; obtain rfl : ev = .nilIface := hz hc0; have HCF := Lib.hid (HC00.out _ _ _ hcf hc0); clear hcf hef hz; obtain ⟨⟨x0, x1, x2⟩, _, hbw1⟩ := HBOX.out _ hb1)
        | (go_at_call 12; refine (HFR.out _ hbw1).mono ?_; rintro e w2 ⟨⟨fv, rfl, hfv⟩, hb2⟩; have hb12 := hb1.trans (hb2.mono hb1.size); obtain ⟨⟨p0, p1, p2⟩, _, hbw2⟩ := HBOX.out _ hb12; have HCN := Lib.hid (HCO.out w2 _ hbw2 hfv); obtain ⟨fa, fc, rfl, _⟩ := hfv; have p0' : ((w2.alloc (.cells #[.bool true, .slice fa fl.length fc] 58)).alloc (.cells #[.bool true, .slice fa fl.length fc] 58)).cell? ⟨w.heap.size, 0, none⟩ = some (.slice q n d) := ((((Below.refl _ w2).alloc (Nat.le_refl _) _).alloc (by simp) _).cell (p := ⟨w.heap.size, 0, none⟩) (World.block_lt_of_cell? w2 _ p0)).trans p0)
        | (go_at_call 26; refine HCN.out.mono ?_; rintro e w3 ⟨⟨a3, c3, rfl, hbr3⟩, hb3⟩; have hb13 := hb12.trans (hb3.mono hb12.size))
        | (go_at_call 15; refine (HME.out _ _ _ hbr3).mono ?_; rintro e w4 ⟨⟨mv, vs, rfl, hmg⟩, hb4⟩; have hb14 := hb13.trans (hb4.mono hb13.size); obtain ⟨⟨q0, q1, q2⟩, ⟨⟨y0, y1, y2, y3⟩, f0, f1, f2, f3⟩, hbw4⟩ := HBOX.out _ hb14; have se := HS4.out _ hbw4; obtain ⟨am, cm, rfl⟩ := own_shape3 hmg.out))
      go_region
      go_wp2_with fail
      have T := sets4_same y0 y1 y2 y3 (.bool false) (.slice none 0 0) (.slice none 0 0) (.slice none 0 0)
      have TB := Lib.hid (sets4_below (v0 := .bool false) (v1 := .slice none 0 0) (v2 := .slice none 0 0) (v3 := .slice none 0 0) hbw4 (Nat.le_succ w.heap.size)).drew
      exact bodyPost_ret (v := .tuple #[zeroG, sentV A 4]) (norm_ret _ (w.heap.size + 1) (.bool false) (.slice none 0 0) (.slice none 0 0) (.slice none 0 0) _ _ rfl rfl T) rfl (HBAD.out _ TB.out HCF.out)
    · exact absurd (hbad.resolve_left hnb2) h2
end Go.Proofs.YtcodmijphejfdaaDoor
