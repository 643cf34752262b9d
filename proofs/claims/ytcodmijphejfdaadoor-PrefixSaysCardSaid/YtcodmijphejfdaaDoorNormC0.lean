/- The contract of prefix.Norm (the walk). Conditions: the formula reads as blocks and clauses, not too many; the three errors lie as 'Sents3' says. -/
import Derived.Test.YtcodmijphejfdaaDoorNormS
import Derived.Laws.ResultCell
namespace Go.Proofs.YtcodmijphejfdaaDoor
open Go.RowKit

set_option maxHeartbeats 4000000 in
set_option maxRecDepth 100000 in
theorem normG_zero (A : Nat → Addr) (vars : Int) (q : Option Addr) (d : Nat) (bs : List Blk) (a : Option Addr) (c : Nat) (xss : List (List Int)) (w : World) (hS : Sents3 w A) (hv1 : -9223372036854775808 ≤ vars) (hv2 : vars ≤ 9223372036854775807) (hq : BRowsAt w q d bs) (hr : RowsAt w a c xss)
    (hint : ∀ xs ∈ xss, ∀ l ∈ xs, -9223372036854775807 ≤ l ∧ l ≤ 9223372036854775807) (hlen : ∀ xs ∈ xss, xs.length < 1000000000) (hwb : ∀ v ∈ varsB bs, -9223372036854775808 ≤ v ∧ v ≤ 9223372036854775807)
    (hn1 : (varsB bs).length ≤ 400000000) (hn2 : xss.flatten.length ≤ 400000000) (hnb : bs.length ≤ 999999) (hnx : xss.length ≤ 1000000000) (hne : ¬ ∃ c p k, CheckFF vars bs xss c p k ∧ c ≠ 0) (hl : (gameL bs xss).length = 0) :
    Calls Tryd.prog 7 #[.agg #[.slice q bs.length d, .int .i64 vars, .slice a xss.length c]] w (NormPost A w vars bs xss) := by
  have HCK := Lib.hid (fun W (hW : Below w.heap.size w W) => checkFm_any A vars q d bs a c xss W (hS.keep hW) hv1 hv2 (hq.keep hW) (hr.keep hW) hint hlen)
  have HFR := Lib.hid (fun W (hW : Below w.heap.size w W) => free_any vars q d bs a c xss W (hq.keep hW) (hr.keep hW) hint hwb (by omega) (by omega))
  have HCO := Lib.hid (fun W fv (hW : Below w.heap.size w W) (hf : Row W fv (freeL bs xss)) => concat_lit W fv _ q d bs hf (hq.keep hW) (by omega) 22)
  have hfl := free_len bs xss
  have HME := Lib.hid (fun W a' c' (h : BRowsAt W a' c' ((true, freeL bs xss) :: bs)) => merge_any a' c' _ W h (by simp; omega) (by simp [varsB] at hn1 ⊢; omega))
  have HCP := Lib.hid (fun W (hW : Below w.heap.size w W) => copies_any a c xss W (hr.keep hW) hnx (fun xs h => Nat.le_of_lt (hlen xs h)))
  have HBOX : Hid (∀ W, Below ((w.alloc (.cells #[.slice q bs.length d, .int .i64 vars, .slice a xss.length c] 27)).alloc (.cells #[.bool false, .slice none 0 0, .slice none 0 0, .slice none 0 0] 32)).heap.size ((w.alloc (.cells #[.slice q bs.length d, .int .i64 vars, .slice a xss.length c] 27)).alloc (.cells #[.bool false, .slice none 0 0, .slice none 0 0, .slice none 0 0] 32)) W →
      (W.cell? ⟨w.heap.size, 0, none⟩ = some (.slice q bs.length d) ∧ W.cell? ⟨w.heap.size, 1, none⟩ = some (.int .i64 vars) ∧ W.cell? ⟨w.heap.size, 2, none⟩ = some (.slice a xss.length c)) ∧
      ((W.cell? ⟨w.heap.size + 1, 0, none⟩ = some (.bool false) ∧ W.cell? ⟨w.heap.size + 1, 1, none⟩ = some (.slice none 0 0) ∧ W.cell? ⟨w.heap.size + 1, 2, none⟩ = some (.slice none 0 0) ∧ W.cell? ⟨w.heap.size + 1, 3, none⟩ = some (.slice none 0 0)) ∧
        W.frozen? ⟨w.heap.size + 1, 0, none⟩ = false ∧ W.frozen? ⟨w.heap.size + 1, 1, none⟩ = false ∧ W.frozen? ⟨w.heap.size + 1, 2, none⟩ = false ∧ W.frozen? ⟨w.heap.size + 1, 3, none⟩ = false) ∧ Below w.heap.size w W) := fun W h => norm_box w W q _ d vars a _ c h
  have HW2 : Hid (Below w.heap.size w ((w.alloc (.cells #[.slice q bs.length d, .int .i64 vars, .slice a xss.length c] 27)).alloc (.cells #[.bool false, .slice none 0 0, .slice none 0 0, .slice none 0 0] 32))) := ((Below.refl _ w).alloc (Nat.le_refl _) _).alloc (by simp) _
  have s4 := hS.c4
  have z4 : 0 < w.heap.size := World.block_lt_of_cell? w _ s4
  have HS4 : Hid (∀ W, Below w.heap.size w W → W.cell? ⟨0, 0, none⟩ = some (.iface 149 (.pointer (some (A 4))))) := fun W hW => (hW.cell (p := ⟨0, 0, none⟩) z4).trans s4
  have HPOST := Lib.hid (show ∀ e w', (∃ gv ev, e = .returned (.tuple #[gv, ev]) ∧ Below w.heap.size w w' ∧
    ((∃ c p k, c ≠ 0 ∧ CheckFF vars bs xss c p k ∧ ErrR A w' ev c p k ∧ gv = zeroG) ∨
      (CheckFF vars bs xss 0 false 0 ∧ 2 < (gameL bs xss).length ∧ ev = sentV A 4 ∧ gv = zeroG) ∨
      (CheckFF vars bs xss 0 false 0 ∧ (gameL bs xss).length ≤ 2 ∧ ev = .nilIface ∧ GameV w' gv (exG (gameL bs xss)) (outG (gameL bs xss)) (inG (gameL bs xss)) xss))) → NormPost A w vars bs xss e w' from fun e w' h => h)
  unfold ChkPost at HCK
  clear hS s4 hq hr hint hlen hwb hn1 hn2 hnb hnx hfl
  generalize hP : NormPost A w vars bs xss = P at *
  clear hP
  have HSAME := Lib.hid (fun c p k (h : CheckFF vars bs xss c p k) c' p' k' (h' : CheckFF vars bs xss c' p' k') => checkFF_same h h')
  have HZ : Hid (∀ c p k, CheckFF vars bs xss c p k → c = 0) := fun c p k h => by
    by_cases h0 : c = 0
    · exact h0
    · exact absurd ⟨c, p, k, h, h0⟩ hne
  have HC00 : Hid (∀ c p k, CheckFF vars bs xss c p k → c = 0 → CheckFF vars bs xss 0 false 0) := fun c p k h h0 => by
    rcases h with ⟨h1, _⟩ | ⟨h1, h2⟩
    · exact absurd h0 h1
    · rcases h2 with ⟨h3, _⟩ | ⟨i, _, h3, _⟩
      · exact .inr ⟨h1, .inl ⟨h3, rfl, rfl, rfl⟩⟩
      · omega
  clear hne HSAME
  rw [show gameL bs xss = mergeL ((true, freeL bs xss) :: bs) from rfl] at HPOST hl
  generalize freeL bs xss = fl at *
  generalize mergeL ((true, fl) :: bs) = ms at *
  have HLT : Hid (∀ W, Below ((w.alloc (.cells #[.slice q bs.length d, .int .i64 vars, .slice a xss.length c] 27)).alloc (.cells #[.bool false, .slice none 0 0, .slice none 0 0, .slice none 0 0] 32)).heap.size ((w.alloc (.cells #[.slice q bs.length d, .int .i64 vars, .slice a xss.length c] 27)).alloc (.cells #[.bool false, .slice none 0 0, .slice none 0 0, .slice none 0 0] 32)) W → w.heap.size + 1 < W.heap.size) := fun W h => by
    have := h.size
    simp at this
    omega
  generalize (true, fl) :: bs = cs at *
  generalize cs.length = L at *
  generalize hnn : bs.length = n at *
  generalize hmm : xss.length = m at *
  have HMM := Lib.hid hmm; clear hmm hnn
  have h2 : ms.length ≤ 2 := by omega
  have HGOOD : Hid (∀ W0 W4 W5 B4 B5 o vs vc ex vo vi v0 v1 v2 v3, MgG W4 B4 o ms vs → CRow W5 B5 vc xss → Below W4.heap.size W4 W5 → Below (sets4 W5 (w.heap.size + 1) v0 v1 v2 v3).heap.size (sets4 W5 (w.heap.size + 1) v0 v1 v2 v3) W0 → Below w.heap.size w W5 → w.heap.size + 1 < B4 → w.heap.size + 1 < B5 → CheckFF vars bs xss 0 false 0 → ex = exG ms → vo = vs.getD 0 nilV → vi = vs.getD 1 nilV →
      P (.returned (.tuple #[.agg #[.bool ex, vo, vi, vc], .nilIface])) W0) := fun W0 W4 W5 B4 B5 o vs vc ex vo vi v0 v1 v2 v3 g1 g2 g3 g4 g5 g6 g7 g8 g9 g10 g11 =>
    HPOST.out _ _ ⟨_, _, rfl, (sets4_below g5 (Nat.le_succ _)).trans (g4.mono (by rw [sets4_size]; exact g5.size)), .inr (.inr ⟨g8, h2, rfl, game_late g1 g3 g2 g4 g6 g7 ex vo vi g9 g10 g11⟩)⟩
  have HRET : Hid (∀ W0 W5 v0 v1 v2 v3 (tmps : Array Value), Below ((w.alloc (.cells #[.slice q n d, .int .i64 vars, .slice a m c] 27)).alloc (.cells #[.bool false, .slice none 0 0, .slice none 0 0, .slice none 0 0] 32)).heap.size ((w.alloc (.cells #[.slice q n d, .int .i64 vars, .slice a m c] 27)).alloc (.cells #[.bool false, .slice none 0 0, .slice none 0 0, .slice none 0 0] 32)) W5 → Below (sets4 W5 (w.heap.size + 1) v0 v1 v2 v3).heap.size (sets4 W5 (w.heap.size + 1) v0 v1 v2 v3) W0 → tmps.getD 2 undef = .pointer (some ⟨w.heap.size + 1, 0, none⟩) → tmps.getD 3 undef = .nilIface →
      (results Tryd.f7 tmps).run Tryd.prog W0 = .ok (.tuple #[.agg #[v0, v1, v2, v3], .nilIface]) W0) := fun W0 W5 v0 v1 v2 v3 tmps h1 h3 h4 h5 => by
    obtain ⟨_, ⟨⟨z0, z1, z2, z3⟩, _⟩, _⟩ := HBOX.out _ h1
    obtain ⟨t0, t1, t2, t3⟩ := sets4_same z0 z1 z2 z3 v0 v1 v2 v3
    have hk : ∀ j u, (sets4 W5 (w.heap.size + 1) v0 v1 v2 v3).cell? ⟨w.heap.size + 1, j, none⟩ = some u → W0.cell? ⟨w.heap.size + 1, j, none⟩ = some u := fun j u h => (h3.cell (World.block_lt_of_cell? _ _ h)).trans h
    exact norm_ret _ _ v0 v1 v2 v3 _ tmps h4 h5 ⟨hk _ _ t0, hk _ _ t1, hk _ _ t2, hk _ _ t3⟩
  clear HPOST
  have HVN : Hid (∀ (vs : List Value) j, vs.length = ms.length → ms.length ≤ j → Value.slice none 0 0 = vs.getD j nilV) := fun vs j h1 h2 => by
    have : vs.getD j nilV = nilV := by simp [List.getD, List.getElem?_eq_none (show vs.length ≤ j by omega)]
    rw [this]; rfl
  have HL := Lib.hid hl
  have HEX : Hid (true = exG ms) := (by unfold exG; rw [if_pos hl] : true = exG ms)
  have HVO : Hid (∀ vs : List Value, vs.length = ms.length → Value.slice none 0 0 = vs.getD 0 nilV) := fun vs h => HVN.out vs 0 h (by omega)
  have HVI : Hid (∀ vs : List Value, vs.length = ms.length → Value.slice none 0 0 = vs.getD 1 nilV) := fun vs h => HVN.out vs 1 h (by omega)
  clear hl h2
  have hd0 : decide ((0 : Int) < (ms.length : Int)) = false := decide_eq_false (by have := HL.out; omega)
  have he0 : decide (0 < ms.length) = false := decide_eq_false (by have := HL.out; omega)
  have hd1 : decide ((1 : Int) < (ms.length : Int)) = false := decide_eq_false (by have := HL.out; omega)
  have he1 : decide (1 < ms.length) = false := decide_eq_false (by have := HL.out; omega)
  have hd2 : decide ((2 : Int) < (ms.length : Int)) = false := decide_eq_false (by have := HL.out; omega)
  have he2 : decide (2 < ms.length) = false := decide_eq_false (by have := HL.out; omega)
  go_enter Tryd.func7, Tryd.ntmps7
  go_wp2_with (first
    | (go_at_call 25; refine (HCK.out _ HW2.out).mono ?_; rintro e w1 ⟨ev, c0, p0, k0, rfl, hcf, hef, hz, hb1⟩; have hc0 := HZ.out _ _ _ hcf; obtain rfl : ev = .nilIface := hz hc0; have HCF := Lib.hid (HC00.out _ _ _ hcf hc0); clear hcf hef hz; obtain ⟨⟨x0, x1, x2⟩, _, hbw1⟩ := HBOX.out _ hb1)
    | (go_at_call 12; refine (HFR.out _ hbw1).mono ?_; rintro e w2 ⟨⟨fv, rfl, hfv⟩, hb2⟩; have hb12 := hb1.trans (hb2.mono hb1.size); obtain ⟨⟨p0, p1, p2⟩, _, hbw2⟩ := HBOX.out _ hb12; have HCN := Lib.hid (HCO.out w2 _ hbw2 hfv); obtain ⟨fa, fc, rfl, _⟩ := hfv; have p0' : ((w2.alloc (.cells #[.bool true, .slice fa fl.length fc] 58)).alloc (.cells #[.bool true, .slice fa fl.length fc] 58)).cell? ⟨w.heap.size, 0, none⟩ = some (.slice q n d) := ((((Below.refl _ w2).alloc (Nat.le_refl _) _).alloc (by simp) _).cell (p := ⟨w.heap.size, 0, none⟩) (World.block_lt_of_cell? w2 _ p0)).trans p0)
    | (go_at_call 26; refine HCN.out.mono ?_; rintro e w3 ⟨⟨a3, c3, rfl, hbr3⟩, hb3⟩; have hb13 := hb12.trans (hb3.mono hb12.size))
    | (go_at_call 15; refine (HME.out _ _ _ hbr3).mono ?_; rintro e w4 ⟨⟨mv, vs, rfl, hmg⟩, hb4⟩; have hb14 := hb13.trans (hb4.mono hb13.size); obtain ⟨⟨q0, q1, q2⟩, ⟨⟨y0, y1, y2, y3⟩, f0, f1, f2, f3⟩, hbw4⟩ := HBOX.out _ hb14; have se := HS4.out _ hbw4; obtain ⟨am, cm, rfl⟩ := own_shape3 hmg.out)
    | (go_at_call 27; refine (HCP.out _ hbw4).mono ?_; rintro e w5 ⟨⟨vc, rfl, hcr⟩, hb5⟩; have hb15 := hb14.trans (hb5.mono hb14.size); obtain ⟨_, _, hbw5⟩ := HBOX.out _ hb15; have hlt5 := HLT.out _ hb15; obtain ⟨ac, cc, rfl, _⟩ := hcr.rows; obtain ⟨_, ⟨⟨z0, z1, z2, z3⟩, e0, e1, e2, e3⟩, _⟩ := HBOX.out _ (hb15.alloc hb15.size (.cells #[.bool true, .slice none 0 0, .slice none 0 0, .slice ac xss.length cc] 32))))
  have HLATE := Lib.hid (show Below (sets4 w5 (w.heap.size + 1) (.bool true) (.slice none 0 0) (.slice none 0 0) (.slice ac xss.length cc)).heap.size (sets4 w5 (w.heap.size + 1) (.bool true) (.slice none 0 0) (.slice none 0 0) (.slice ac xss.length cc)) ((sets4 w5 (w.heap.size + 1) (.bool true) (.slice none 0 0) (.slice none 0 0) (.slice ac xss.length cc)).alloc (.cells #[.bool true, .slice none 0 0, .slice none 0 0, .slice ac xss.length cc] 32)) from (Below.refl _ _).alloc (Nat.le_refl _) _)
  exact bodyPost_ret (v := .tuple #[.agg #[.bool (true), .slice none 0 0, .slice none 0 0, .slice ac xss.length cc], .nilIface]) (HRET.out ((sets4 w5 (w.heap.size + 1) (.bool true) (.slice none 0 0) (.slice none 0 0) (.slice ac xss.length cc)).alloc (.cells #[.bool true, .slice none 0 0, .slice none 0 0, .slice ac xss.length cc] 32)) w5 _ _ _ _ _ hb15 HLATE.out rfl rfl) rfl (HGOOD.out ((sets4 w5 (w.heap.size + 1) (.bool true) (.slice none 0 0) (.slice none 0 0) (.slice ac xss.length cc)).alloc (.cells #[.bool true, .slice none 0 0, .slice none 0 0, .slice ac xss.length cc] 32)) w4 w5 w3.heap.size w4.heap.size _ vs _ _ _ _ _ _ _ _ hmg hcr hb5 HLATE.out hbw5 (HLT.out _ hb13) (HLT.out _ hb14) HCF.out HEX.out (HVO.out vs hmg.len) (HVI.out vs hmg.len))
end Go.Proofs.YtcodmijphejfdaaDoor
