/- The walk of skolemlaw5.QdimacsBlocks: it answers true. Conditions: the slices read as bools, as 64-bit ints; the errors and the table of powers of ten lie as the program lays them. · skolemlaw5.QdimacsBlocks answers true, whatever its arguments. Conditions: the slices read as bools, as 64-bit ints; the errors and the table of powers of ten lie as the program lays them. -/
import Derived.Test.YtfoohdknjacenaaDoorBlkBase
namespace Go.Proofs.YtfoohdknjacenaaDoor
open Go.RowKit

/-- What holds when the law has made k blocks. -/
def BlkR1 (w : World) (p nk : Nat) (v i : Value) (wr : World) : Prop :=
  ∃ (k u : Nat) (bs : List Blk) (fl : List Value) (ov : Value), k ≤ nk ∧ i = .int .i64 k ∧ v = .int .i64 ((u : Int) + 1) ∧ Hid (BlksI bs u) ∧ Hid (bs.length = k) ∧ FmG wr (p + 1) 0 ov (.slice none 0 0) (.slice none 0 0) bs fl [] [] ∧ wr.cell? ⟨p, 0, none⟩ = some ov ∧ wr.cell? ⟨p, 1, none⟩ = some (.int .i64 12) ∧ wr.cell? ⟨p, 2, none⟩ = some (.slice none 0 0) ∧ (∀ q, wr.frozen? ⟨p, q, none⟩ = false) ∧ Below w.heap.size w wr ∧ p + 1 ≤ wr.heap.size

set_option maxRecDepth 8000 in
set_option maxHeartbeats 8000000 in
theorem blocks_in (A : Nat → Addr) (ka : Option Addr) (kc : Nat) (ks : List Bool) (ca : Option Addr) (cc : Nat) (cs : List Int) (gap : Int) (w : World) (hS : Sents8 w A) (ht : Tabs w) (hk : RowGAt Value.bool false w ka kc ks) (hc : RowAt w ca cc cs) (hk1 : 1 ≤ ks.length) (hk2 : ks.length ≤ 8) (hk3 : ks.length ≤ cs.length) :
    Calls Tryd.prog 3 #[.slice ka ks.length kc, .slice ca cs.length cc, .int .i64 gap] w fun e w' => e = .returned (.bool true) ∧ Below w.heap.size w w' := by
  have HF := Lib.hid (first5_any A w hS ht)
  have HN := Lib.hid (fun n W => modNum_any n 4 (by omega) (by omega) W)
  have HG := Lib.hid (fun W => modNum_any gap 3 (by omega) (by omega) W)
  have hnz : ((ks.length : Int) == 0) = false := beq_eq_false_iff_ne.2 (by omega)
  have hn8 : decide ((8 : Int) < ks.length) = false := decide_eq_false (by omega)
  have hnc : decide ((cs.length : Int) < ks.length) = false := decide_eq_false (by omega)
  have hnc2 : decide (cs.length < ks.length) = false := decide_eq_false (by omega)
  have HRD := Lib.hid (fun W (hW : Below w.heap.size w W) v (xs : List Int) (hr : RowG (Value.int .u8) 0 W v xs) (hb : Bts xs) (hl : xs.length ≤ 4000) => readF_any A v xs W (hS.keep hW) hr hb hl)
  unfold RFPost at HRD
  have HCB := Lib.hid (fun W v (xs : List Int) (hr : RowG (Value.int .u8) 0 W v xs) (hl : xs.length ≤ 4000) => copyB_any v xs W hr (by omega))
  have HSN := Lib.hid (fun W (hW : Below w.heap.size w W) => (hS.keep hW).toSents)
  have HP := Lib.hid (fun (k : Int) W => placed_any 101 k W (by omega))
  have HY := Lib.hid (fun ev (k : Int) W (h : ErrAs W ev 101 true k) => see_yes ev 101 true k W h)
  have HNR := Lib.hid (fun W => near_any (.slice none 0 0) [] W ⟨none, 0, rfl, Nat.le_refl _, by unfold maxLen; omega, .inl rfl⟩)
  clear hS ht
  obtain ⟨hkc1, hkc2, hkr⟩ := hk
  obtain ⟨hcc1, hcc2, hcr⟩ := hc
  unfold maxLen at hkc2 hcc2
  obtain ⟨kb, ko, rfl, hkb, hkx⟩ := hkr.resolve_left (by omega)
  obtain ⟨cb, co, rfl, hcb, hcx⟩ := hcr.resolve_left (by omega)
  have HKX : Hid (∀ W, Below w.heap.size w W → ∀ i, i < ks.length → W.cell? ⟨kb, ko + i, none⟩ = some (.bool (ks.getD i false))) := fun W hW i hi => (hW.cell (p := ⟨kb, ko + i, none⟩) hkb).trans (hkx i hi)
  have HCX : Hid (∀ W, Below w.heap.size w W → ∀ i, i < cs.length → W.cell? ⟨cb, co + i, none⟩ = some (.int .i64 (cs.getD i 0))) := fun W hW i hi => (hW.cell (p := ⟨cb, co + i, none⟩) hcb).trans (hcx i hi)
  have HLT := Lib.hid (show 0 < w.heap.size by omega)
  clear hkx hcx hkb hcb hkr hcr
  generalize ks.length = nk at *
  generalize cs.length = nc at *
  go_enter Tryd.func3, Tryd.ntmps3
  go_wp2_with (go_at_call 4; refine HF.out.mono ?_; rintro e w1 ⟨rfl, hb1⟩)
  have hp0 := hb1.size
  obtain ⟨hp1, hp2, hp3⟩ := cells3 w1 (w1.alloc (.cells #[.slice none 0 0, .int .i64 12, .slice none 0 0] 30)) _ _ _ _ (Below.refl _ _)
  have hpf : ∀ k, (w1.alloc (.cells #[.slice none 0 0, .int .i64 12, .slice none 0 0] 30)).frozen? ⟨w1.heap.size, k, none⟩ = false := fun k => World.frozen?_alloc_at _ _ _ _ (by simp)
  have hw3 := hb1.alloc hp0 (.cells #[.slice none 0 0, .int .i64 12, .slice none 0 0] 30)
  have hs3 : (w1.alloc (.cells #[.slice none 0 0, .int .i64 12, .slice none 0 0] 30)).heap.size = w1.heap.size + 1 := by simp
  generalize w1.alloc (.cells #[.slice none 0 0, .int .i64 12, .slice none 0 0] 30) = W3 at *
  generalize w1.heap.size = p at *
  go_loopw [9, 10] (fun v i wr => BlkR1 w p nk v i wr) (fun _ i _ => nk - (intOf i).toNat)
  case atStart => exact ⟨0, 0, [], [], _, Nat.zero_le _, rfl, rfl, BlksI.start, rfl, FmG.start _ _ _ (by omega), hp1, hp2, hp3, hpf, hw3, by omega⟩
  case round =>
    obtain ⟨k, u, bs, fl, ov, hk, rfl, rfl, HB, HBLN, hfm, hp1, hp2, hp3, hpf, hbr, hsr⟩ := hrel
    have hszr := hbr.size
    obtain ⟨ao, co2, rfl, _, hco2⟩ := own_shape2 hfm.out
    unfold maxLen at hco2
    by_cases hlt : k < nk
    · have g1 := HKX.out _ hbr k hlt
      have hbx := hbr.alloc hszr (.cells #[.bool (ks.getD k false), .slice none 0 0] 32)
      have g2 := HCX.out _ hbx k (by omega)
      have hu := HB.out.le
      generalize ks.getD k false = ex at *
      generalize cs.getD k 0 = cv at *
      have hlv := modN_lt cv (show 0 < 4 by omega)
      have hwx : Below wr.heap.size wr (wr.alloc (.cells #[.bool ex, .slice none 0 0] 32)) := (Below.refl _ _).alloc (Nat.le_refl _) _
      have hfx := hfm.fresh hwx (by simp)
      have hxc := cells2 wr (wr.alloc (.cells #[.bool ex, .slice none 0 0] 32)) _ _ _ (Below.refl _ _)
      have hxf : ∀ q, (wr.alloc (.cells #[.bool ex, .slice none 0 0] 32)).frozen? ⟨wr.heap.size, q, none⟩ = false := fun k => World.frozen?_alloc_at _ _ _ _ (by simp)
      have hq1 := (hwx.cell (p := ⟨p, 0, none⟩) (by show p < _; omega)).trans hp1
      have hq2 := (hwx.cell (p := ⟨p, 1, none⟩) (by show p < _; omega)).trans hp2
      have hq3 := (hwx.cell (p := ⟨p, 2, none⟩) (by show p < _; omega)).trans hp3
      have hqf : ∀ q, (wr.alloc (.cells #[.bool ex, .slice none 0 0] 32)).frozen? ⟨p, q, none⟩ = false := fun q => (hwx.frozen (p := ⟨p, q, none⟩) (by show p < _; omega)).trans (hpf q)
      have hsx : (wr.alloc (.cells #[.bool ex, .slice none 0 0] 32)).heap.size = wr.heap.size + 1 := by simp
      go_wp2_with (go_at_call 5; refine (HN.out _ _).mono ?_; rintro e w' ⟨rfl, rfl⟩)
      generalize wr.alloc (.cells #[.bool ex, .slice none 0 0] 32) = wx at *
      generalize hX : wr.heap.size = X at *
      clear hX
      go_loopw [9, 12] (fun v n wr2 => ∃ (u2 m : Nat) (l : List Int) (xv : Value), v = .int .i64 ((u2 : Int) + 1) ∧ n = .int .i64 m ∧ l.length + m ≤ 3 ∧ u2 ≤ 12 ∧ Hid (varsOk 12 (seqI u) l = some (seqI u2)) ∧ FmG wr2 (p + 1) X (.slice ao bs.length co2) (.slice none 0 0) xv bs fl [] l ∧ wr2.cell? ⟨X, 0, none⟩ = some (.bool ex) ∧ wr2.cell? ⟨X, 1, none⟩ = some xv ∧ (∀ q, wr2.frozen? ⟨X, q, none⟩ = false) ∧ wr2.cell? ⟨p, 0, none⟩ = some (.slice ao bs.length co2) ∧ wr2.cell? ⟨p, 1, none⟩ = some (.int .i64 12) ∧ wr2.cell? ⟨p, 2, none⟩ = some (.slice none 0 0) ∧ (∀ q, wr2.frozen? ⟨p, q, none⟩ = false) ∧ Below w.heap.size w wr2 ∧ X + 1 ≤ wr2.heap.size) (fun _ n _ => (intOf n).toNat)
      case atStart => exact ⟨u, modN cv 4, [], _, rfl, rfl, by simp; omega, hu, rfl, hfx, hxc.1, hxc.2, hxf, hq1, hq2, hq3, hqf, hbx, by omega⟩
      case round =>
        obtain ⟨u2, m, l, xv, rfl, rfl, hlm, hu2, HV, hf2, hx0, hx1, hxf2, hr1, hr2, hr3, hrf, hbr2, hsr2⟩ := hrel
        clear hfx hxc hxf hq1 hq2 hq3 hqf hbx hwx
        have hs2 := hbr2.size
        obtain ⟨ax, cx, rfl, _, hcx2⟩ := own_shape hf2.cur
        unfold maxLen at hcx2
        cases hmz : decide ((0 : Int) < m) with
        | false =>
          have hm0 := of_decide_eq_false hmz
          have hmn : decide (0 < m) = false := decide_eq_false (by omega)
          go_wp2_with (at_builtin; refine wpList_appS 28 32 _ 2 32 Tryd.underlying28 infoBlk rfl (by decide) (by decide) rfl _ _ rfl wr (p + 1) _ bs.length fl [.bool ex, .slice ax l.length cx] (by intro y hy; simp at hy; rcases hy with rfl | rfl <;> rfl) rfl hf2.out (by omega) (by have := HBLN.out; omega) _ rfl rfl rfl ?_; intro o5 w5 hown5 hap5; obtain ⟨a5, c5, rfl, _, _⟩ := own_shape2 hown5; have hr15 := (hap5.below.cell (p := ⟨p, 0, none⟩) (Nat.lt_succ_self _)).trans hr1; have hr25 := (hap5.below.cell (p := ⟨p, 1, none⟩) (Nat.lt_succ_self _)).trans hr2; have hr35 := (hap5.below.cell (p := ⟨p, 2, none⟩) (Nat.lt_succ_self _)).trans hr3; have hrf5 : ∀ q, w5.frozen? ⟨p, q, none⟩ = false := fun q => (hap5.below.frozen (p := ⟨p, q, none⟩) (Nat.lt_succ_self _)).trans (hrf q); have hrf50 := hrf5 0)
          go_roundw
          case measure => simp [intOf]; omega
          case rel =>
            have hsz5 := hap5.below.size
            have hb5 := hbr2.trans (hap5.below.mono (show w.heap.size ≤ p + 1 by omega))
            unfold BlkR1
            refine ⟨k + 1, u2, bs ++ [(ex, l)], fl ++ [.bool ex, .slice ax l.length cx], _, by omega, by go_num, rfl, HB.out.push HV.out hu2 (by omega), by have := HBLN.out; unfold Hid; simp; omega, ((hf2.push hap5 hown5).only (Only.setCell w5 p 0 _) (.inl (Nat.lt_succ_self _))).reX (by omega) (by simp [World.setCell]; omega), World.cell?_setCell_same _ _ _ hr15, ?_, ?_, fun q => (World.frozen?_setCell _ _ _ _).trans (hrf5 q), hb5.setCell hp0 _, by simp [World.setCell]; omega⟩
            · rw [World.cell?_setCell_other _ _ _ _ (by simp)]; exact hr25
            · rw [World.cell?_setCell_other _ _ _ _ (by simp)]; exact hr35
        | true =>
          have hm0 := of_decide_eq_true hmz
          have hmn : decide (0 < m) = true := decide_eq_true (by omega)
          cases hv12 : decide ((u2 : Int) + 1 ≤ 12) with
          | false =>
            have hv0 := of_decide_eq_false hv12
            have hv1 : decide (u2 + 1 ≤ 12) = false := decide_eq_false (by omega)
            have hv2 : decide (u2 < 12) = false := decide_eq_false (by omega)
            have hv3 : decide ((u2 : Int) < 12) = false := decide_eq_false (by omega)
            go_wp2_with (at_builtin; refine wpList_appS 28 32 _ 2 32 Tryd.underlying28 infoBlk rfl (by decide) (by decide) rfl _ _ rfl wr (p + 1) _ bs.length fl [.bool ex, .slice ax l.length cx] (by intro y hy; simp at hy; rcases hy with rfl | rfl <;> rfl) rfl hf2.out (by omega) (by have := HBLN.out; omega) _ rfl rfl rfl ?_; intro o5 w5 hown5 hap5; obtain ⟨a5, c5, rfl, _, _⟩ := own_shape2 hown5; have hr15 := (hap5.below.cell (p := ⟨p, 0, none⟩) (Nat.lt_succ_self _)).trans hr1; have hr25 := (hap5.below.cell (p := ⟨p, 1, none⟩) (Nat.lt_succ_self _)).trans hr2; have hr35 := (hap5.below.cell (p := ⟨p, 2, none⟩) (Nat.lt_succ_self _)).trans hr3; have hrf5 : ∀ q, w5.frozen? ⟨p, q, none⟩ = false := fun q => (hap5.below.frozen (p := ⟨p, q, none⟩) (Nat.lt_succ_self _)).trans (hrf q); have hrf50 := hrf5 0)
            go_roundw
            case measure => simp [intOf]; omega
            case rel =>
              have hsz5 := hap5.below.size
              have hb5 := hbr2.trans (hap5.below.mono (show w.heap.size ≤ p + 1 by omega))
              unfold BlkR1
              refine ⟨k + 1, u2, bs ++ [(ex, l)], fl ++ [.bool ex, .slice ax l.length cx], _, by omega, by go_num, rfl, HB.out.push HV.out hu2 (by omega), by have := HBLN.out; unfold Hid; simp; omega, ((hf2.push hap5 hown5).only (Only.setCell w5 p 0 _) (.inl (Nat.lt_succ_self _))).reX (by omega) (by simp [World.setCell]; omega), World.cell?_setCell_same _ _ _ hr15, ?_, ?_, fun q => (World.frozen?_setCell _ _ _ _).trans (hrf5 q), hb5.setCell hp0 _, by simp [World.setCell]; omega⟩
              · rw [World.cell?_setCell_other _ _ _ _ (by simp)]; exact hr25
              · rw [World.cell?_setCell_other _ _ _ _ (by simp)]; exact hr35
          | true =>
            have hv0 := of_decide_eq_true hv12
            have hv1 : decide (u2 + 1 ≤ 12) = true := decide_eq_true (by omega)
            have hv2 : decide (u2 < 12) = true := decide_eq_true (by omega)
            have hv3 : decide ((u2 : Int) < 12) = true := decide_eq_true (by omega)
            have HV2 : Hid (varsOk 12 (seqI u) (l ++ [(u2 : Int) + 1]) = some (seqI (u2 + 1))) := by
              unfold Hid
              rw [seqI_succ]
              exact varsOk_snoc HV.out (seqI_ok (by omega))
            go_wp2_with (at_builtin; refine wpList_app1 rfl _ _ rfl wr (p + 1) _ _ _ _ hf2.cur (by omega) (by omega) rfl rfl ?_; intro v6 w6 hown6 hap6; have hf6 := hf2.addX hap6 hown6; have hx06 := (World.cell?_of_block (a := ⟨X, 0, none⟩) (hap6.other X hf2.xlt (fun e => (hf2.xo _ e.symm).2.1 rfl))).trans hx0; have hx16 := (World.cell?_of_block (a := ⟨X, 1, none⟩) (hap6.other X hf2.xlt (fun e => (hf2.xo _ e.symm).2.1 rfl))).trans hx1; have hxf6 : ∀ q, w6.frozen? ⟨X, q, none⟩ = false := (fun q => (World.frozen?_of_block (a := ⟨X, q, none⟩) (hap6.other X hf2.xlt (fun e => (hf2.xo _ e.symm).2.1 rfl))).trans (hxf2 q)); have hxf60 := hxf6 1; obtain ⟨a6, c6, rfl, _, _⟩ := own_shape hown6)
            go_roundw
            case measure => simp [intOf]; omega
            case rel =>
              have hsz6 := hap6.below.size
              have hne : p ≠ X := by omega
              have hb6 := hbr2.trans (hap6.below.mono (show w.heap.size ≤ p + 1 by omega))
              have hr16 := (hap6.below.cell (p := ⟨p, 0, none⟩) (Nat.lt_succ_self _)).trans hr1
              have hr26 := (hap6.below.cell (p := ⟨p, 1, none⟩) (Nat.lt_succ_self _)).trans hr2
              have hr36 := (hap6.below.cell (p := ⟨p, 2, none⟩) (Nat.lt_succ_self _)).trans hr3
              obtain ⟨m', rfl⟩ : ∃ m', m = m' + 1 := ⟨m - 1, by omega⟩
              refine ⟨u2 + 1, m', l ++ [(u2 : Int) + 1], _, by congr 1, by congr 1; omega, by simp; omega, by omega, HV2.out, hf6.only (Only.setCell w6 X 1 _) (.inr rfl), ?_, World.cell?_setCell_same _ _ _ hx16, fun q => (World.frozen?_setCell _ _ _ _).trans (hxf6 q), ?_, ?_, ?_, fun q => (World.frozen?_setCell _ _ _ _).trans ((hap6.below.frozen (p := ⟨p, q, none⟩) (Nat.lt_succ_self _)).trans (hrf q)), hb6.setCell (by omega) _, by simp [World.setCell]; omega⟩
              · rw [World.cell?_setCell_other _ _ _ _ (by simp)]; exact hx06
              · rw [World.cell?_setCell_other _ _ _ _ (by simp <;> omega)]; exact hr16
              · rw [World.cell?_setCell_other _ _ _ _ (by simp <;> omega)]; exact hr26
              · rw [World.cell?_setCell_other _ _ _ _ (by simp <;> omega)]; exact hr36
    · have hkn : k = nk := by omega
      subst hkn
      have HBR : Hid (BRowsAt wr ao co2 bs) := by
        obtain ⟨a9, c9, e9, h9⟩ := hfm.blocks.rows
        injection e9 with e1 e2 e3
        subst e1; subst e3
        exact h9
      clear hfm hpf HN HKX HCX hn8 hnz hnc hnc2
      have HBN := Lib.hid HBLN.out
      obtain ⟨_, _, hbx⟩ := HBR.out
      obtain ⟨fb, fo, hao, hfb, hfx⟩ := hbx.resolve_left (by have := HBLN.out; omega)
      subst hao
      have kc := Lib.run_convert_bytes_const (P := Tryd.prog) wr 34 5 #[.int .u8 112, .int .u8 32, .int .u8 99, .int .u8 110, .int .u8 102, .int .u8 32, .int .u8 49, .int .u8 50, .int .u8 32, .int .u8 48, .int .u8 10] 11 11 Tryd.underlying34 Tryd.underlying5
      go_wp2_with fail
      have hzV : Below wr.heap.size wr (wr.alloc (.cells #[.int .u8 112, .int .u8 32, .int .u8 99, .int .u8 110, .int .u8 102, .int .u8 32, .int .u8 49, .int .u8 50, .int .u8 32, .int .u8 48, .int .u8 10] 5 (11, 12))) := (Below.refl _ _).alloc (Nat.le_refl _) _
      have HT0 : Hid (TRow (wr.alloc (.cells #[.int .u8 112, .int .u8 32, .int .u8 99, .int .u8 110, .int .u8 102, .int .u8 32, .int .u8 49, .int .u8 50, .int .u8 32, .int .u8 48, .int .u8 10] 5 (11, 12))) (wr.heap.size + 1) (.slice (some ⟨wr.heap.size, 0, none⟩) 11 11) (headT 12 0)) := by
        rw [head12]
        refine .inl ⟨wr.heap.size, rfl, by simp, fun j u hj => ?_⟩
        rw [World.cell?_alloc_mark]
        simpa using hj
      have hsV : (wr.alloc (.cells #[.int .u8 112, .int .u8 32, .int .u8 99, .int .u8 110, .int .u8 102, .int .u8 32, .int .u8 49, .int .u8 50, .int .u8 32, .int .u8 48, .int .u8 10] 5 (11, 12))).heap.size = wr.heap.size + 1 := by simp
      clear kc
      generalize wr.alloc (.cells #[.int .u8 112, .int .u8 32, .int .u8 99, .int .u8 110, .int .u8 102, .int .u8 32, .int .u8 49, .int .u8 50, .int .u8 32, .int .u8 48, .int .u8 10] 5 (11, 12)) = V0 at *
      have hql := modN_lt gap (show 0 < 3 by omega)
      have HMEM := Lib.hid HB.out.mem
      have HSHORT := Lib.hid HB.out.short
      have HWV := Lib.hid (hbr.trans (hzV.mono hszr))
      have HPC : Hid (∀ W, Below V0.heap.size V0 W → W.cell? ⟨p, 0, none⟩ = some (.slice (some ⟨fb, fo, none⟩) bs.length co2) ∧ W.cell? ⟨p, 1, none⟩ = some (.int .i64 12) ∧ W.cell? ⟨p, 2, none⟩ = some (.slice none 0 0)) := fun W hW => by
        have hb := hzV.trans (hW.mono (by omega))
        exact ⟨(hb.cell (p := ⟨p, 0, none⟩) (show p < _ by omega)).trans hp1, (hb.cell (p := ⟨p, 1, none⟩) (show p < _ by omega)).trans hp2, (hb.cell (p := ⟨p, 2, none⟩) (show p < _ by omega)).trans hp3⟩
      have HFX : Hid (∀ W, Below V0.heap.size V0 W → ∀ i, i < bs.length → W.cell? ⟨fb, fo + i * 2, none⟩ = some (.bool (bs.getD i blk0).1) ∧ ∃ v, W.cell? ⟨fb, fo + i * 2 + 1, none⟩ = some v ∧ Row W v (bs.getD i blk0).2) := fun W hW i hi => by
        have hb := hzV.trans (hW.mono (by omega))
        obtain ⟨g0, v, g1, g2⟩ := hfx i hi
        exact ⟨(hb.cell (p := ⟨fb, fo + i * 2, none⟩) hfb).trans g0, v, (hb.cell (p := ⟨fb, fo + i * 2 + 1, none⟩) hfb).trans g1, g2.keep hb⟩
      have HGL : Hid (∀ k, (headT 12 0 ++ (bs.take k).flatMap (blkT (gapT (modN gap 3)))).length ≤ 200) := fun k => by
        have h1 := gText_len (gapT (modN gap 3)) (gapT_len _) (bs.take k) (fun b hb => ⟨HSHORT.out b (List.mem_of_mem_take hb), HMEM.out b (List.mem_of_mem_take hb)⟩)
        unfold gText at h1
        have h2 : (bs.take k).length ≤ bs.length := by rw [List.length_take]; omega
        have := HBLN.out
        show (headT 12 0 ++ (bs.take k).flatMap (blkT (gapT (modN gap 3)))).length ≤ 200
        omega
      have HSTEP := Lib.hid (fun i (hi : i < bs.length) => take_flat (blkT (gapT (modN gap 3))) blk0 bs i hi)
      have HBV := Lib.hid (HBR.out.keep hzV)
      clear hfx hp1 hp2 hp3 hzV HBR
      have hsz1 : wr.heap.size + 1 = V0.heap.size := hsV.symm
      rw [hsz1] at HT0
      clear hsz1 hsV
      generalize hnb : bs.length = nb at *
      have HNB := Lib.hid hnb; clear hnb
      generalize modN gap 3 = q at *
      go_loopw [13, 14] (fun tv i wr => ∃ (j : Nat), j ≤ nb ∧ i = .int .i64 j ∧ Hid (TRow wr V0.heap.size tv (headT 12 0 ++ (bs.take j).flatMap (blkT (gapT q))) ∧ (0 < j → wr.ownsRow V0.heap.size 5 1 tv (headT 12 0 ++ (bs.take j).flatMap (blkT (gapT q))).length ((headT 12 0 ++ (bs.take j).flatMap (blkT (gapT q))).map (Value.int .u8)))) ∧ Below V0.heap.size V0 wr) (fun _ i _ => nb - (intOf i).toNat)
      case atStart => exact ⟨0, Nat.zero_le _, rfl, ⟨by simpa using HT0.out, fun h => absurd h (by omega)⟩, Below.refl _ _⟩
      case round =>
        obtain ⟨j, hj, rfl, HT, hzr⟩ := hrel
        clear HT0
        have hszr := hzr.size
        obtain ⟨hq1, hq2, hq3⟩ := HPC.out _ hzr
        by_cases hjl : j < nb
        · obtain ⟨g0', v, g1', hv⟩ := HFX.out _ (Below.refl _ V0) j hjl
          have g0 := (hzr.cell (p := ⟨fb, fo + j * 2, none⟩) (World.block_lt_of_cell? V0 _ g0')).trans g0'
          have HSS := Lib.hid (HSTEP.out j hjl)
          have HMB := Lib.hid (HMEM.out _ (getD_memB (bs := bs) (k := j) (by rw [HNB.out]; exact hjl)))
          have HSB := Lib.hid (HSHORT.out _ (getD_memB (bs := bs) (k := j) (by rw [HNB.out]; exact hjl)))
          have HHL := Lib.hid (HGL.out j)
          have hh1 : headT 12 0 ++ (bs.take (j + 1)).flatMap (blkT (gapT q)) = headT 12 0 ++ (bs.take j).flatMap (blkT (gapT q)) ++ blkT (gapT q) (bs.getD j blk0) := by rw [HSS.out, List.append_assoc]
          have HH1 := Lib.hid hh1; clear hh1 HSS
          generalize headT 12 0 ++ (bs.take j).flatMap (blkT (gapT q)) = hd at *
          have HBE : Hid (blkT (gapT q) (bs.getD j blk0) = letL (bs.getD j blk0).1 ++ varsT (gapT q) (bs.getD j blk0).2 ++ [32, 48, 10]) := rfl
          generalize (bs.getD j blk0).1 = ex at *
          generalize (bs.getD j blk0).2 = ys at *
          obtain ⟨av, cv, rfl, hcv1, hcv2, hrv⟩ := hv
          unfold maxLen at hcv2
          have HVL : Hid (∀ k, (varsT (gapT q) (ys.take k)).length ≤ 12) := fun k => by
            have h1 := varsT_len (gapT q) (gapT_len q) (ys.take k) (fun x hx => HMB.out x (List.mem_of_mem_take hx))
            have h2 : (ys.take k).length ≤ ys.length := by rw [List.length_take]; omega
            have := HSB.out
            show (varsT (gapT q) (ys.take k)).length ≤ 12
            omega
          have HG1 : Hid (∀ W, Below V0.heap.size V0 W → W.cell? ⟨fb, fo + j * 2 + 1, none⟩ = some (.slice av ys.length cv)) := fun W hW => (hW.cell (p := ⟨fb, fo + j * 2 + 1, none⟩) (World.block_lt_of_cell? V0 _ g1')).trans g1'
          have HROW : Hid (∀ W, Below V0.heap.size V0 W → ∀ k, k < ys.length → ∃ vb vo, av = some ⟨vb, vo, none⟩ ∧ W.cell? ⟨vb, vo + k, none⟩ = some (.int .i64 (ys.getD k 0))) := fun W hW k hk => by
            obtain ⟨vb, vo, e, hvb, hvc⟩ := hrv.resolve_left (by omega)
            exact ⟨vb, vo, e, (hW.cell (p := ⟨vb, vo + k, none⟩) hvb).trans (hvc k hk)⟩
          clear hrv g0' g1'
          generalize hml : ys.length = ml at *
          have HML := Lib.hid hml; clear hml
          generalize hW0 : wr = w0 at *
          clear hW0
          cases ex with
          | true =>
            go_wp2_with (at_builtin; refine wpList_appT rfl _ _ rfl w0 V0.heap.size _ hd [101] (by intro x hx; simp at hx; omega) (by decide) HT.out.1 hszr (by have := HHL.out; simp; omega) rfl rfl ?_; intro v4 w4 hown4 hb4; have hz4 := hzr.trans hb4; have HO4 := Lib.hid hown4; clear hown4)
            have HST : Hid (w4.ownsRow V0.heap.size 5 1 v4 (hd ++ letL true ++ varsT (gapT q) (ys.take 0)).length ((hd ++ letL true ++ varsT (gapT q) (ys.take 0)).map (Value.int .u8))) := by
              rw [List.take_zero, show varsT (gapT q) [] = [] from rfl, List.append_nil]
              have := HO4.out
              rw [← List.length_append] at this
              exact this
            have HHL2 : Hid (∀ k, (hd ++ letL true ++ varsT (gapT q) (ys.take k)).length ≤ 213) := fun k => by
              have h1 := HHL.out
              have h2 := HVL.out k
              have h3 := (let_tok true).2.2.2
              show (hd ++ letL true ++ varsT (gapT q) (ys.take k)).length ≤ 213
              simp only [List.length_append]
              omega
            have HH2 : Hid (headT 12 0 ++ (bs.take (j + 1)).flatMap (blkT (gapT q)) = hd ++ letL true ++ varsT (gapT q) ys ++ [32, 48, 10]) := by
              unfold Hid
              rw [HH1.out, HBE.out]
              simp
            clear HO4 HT HH1 HBE
            generalize letL true = lt at *
            go_loopw [13, 15] (fun tv i wr => ∃ (k : Nat), k ≤ ml ∧ i = .int .i64 k ∧ Hid (wr.ownsRow V0.heap.size 5 1 tv (hd ++ lt ++ varsT (gapT q) (ys.take k)).length ((hd ++ lt ++ varsT (gapT q) (ys.take k)).map (Value.int .u8))) ∧ Below V0.heap.size V0 wr) (fun _ i _ => ml - (intOf i).toNat)
            case atStart => exact ⟨0, Nat.zero_le _, rfl, HST.out, hz4⟩
            case round =>
              obtain ⟨k, hk, rfl, HO, hzr2⟩ := hrel
              clear HST
              have hszr2 := hzr2.size
              obtain ⟨hq4, hq5, hq6⟩ := HPC.out _ hzr2
              have g3 := HG1.out _ hzr2
              by_cases hkl : k < ml
              · obtain ⟨vb, vo, hav, g4⟩ := HROW.out _ hzr2 k hkl
                subst hav
                have hky : k < ys.length := by rw [HML.out]; exact hkl
                have HLB := Lib.hid (HMB.out _ (getD_memI hky))
                have HSJ := Lib.hid (take_varsT (gapT q) ys k hky)
                have HKJ := Lib.hid (HHL2.out k)
                clear hky
                obtain ⟨ln, hln⟩ : ∃ ln : Nat, ys.getD k 0 = ln := ⟨(ys.getD k 0).toNat, by have := HLB.out; omega⟩
                rw [hln] at HLB HSJ g4
                clear hln
                have hl12 : ln ≤ 12 := by have := HLB.out; omega
                have g5 : (wr.alloc (.cells #[.string ⟨#[32]⟩, .string ⟨#[10]⟩, .string ⟨#[32, 9]⟩] 9)).cell? ⟨wr.heap.size, q, none⟩ = some (.string (strOfNums (gapT q))) := by
                  rw [World.cell?_alloc_at _ _ _ _ rfl]
                  match q, hql with
                  | 0, _ => rfl
                  | 1, _ => rfl
                  | 2, _ => rfl
                have hq3' : (q : Int) < 3 := by omega
                cases h9 : decide (9 < ln) with
                | true =>
                  have h9a := of_decide_eq_true h9
                  have h9b : decide ((9 : Int) < ln) = true := decide_eq_true (by omega)
                  go_wp2_with (first
                    | (go_at_call 5; refine (HG.out _).mono ?_; rintro e w' ⟨rfl, rfl⟩)
                    | (at_builtin; refine wpList_app1G (Value.int .u8) 34 5 (.int .u8 0) 1 Tryd.underlying34 infoU8 rfl (by decide) rfl _ _ rfl w6 V0.heap.size _ _ _ _ rfl hown6 hs6 (by have := HKJ.out; have := gapT_len q; omega) rfl rfl ?_; intro v7 w7 hown7 hap7)
                    | (at_builtin; refine wpList_app1G (Value.int .u8) 34 5 (.int .u8 0) 1 Tryd.underlying34 infoU8 rfl (by decide) rfl _ _ rfl w5 V0.heap.size _ _ _ 49 rfl hown5 hs5 (by have := HKJ.out; have := gapT_len q; omega) rfl rfl ?_; intro v6 w6 hown6 hap6; have hz6 := hz5.trans hap6.below; have hs6 := hz6.size)
                    | (at_builtin; refine wpList_appStr rfl _ _ rfl _ V0.heap.size _ _ _ (gapT q) (gapT_bts q) (HO.out.alloc _) (by simp; omega) (by have := HKJ.out; have := gapT_len q; omega) rfl rfl ?_; intro v5 w5 hown5 hb5; have hz5 := (hzr2.alloc hszr2 _).trans hb5; have hs5 := hz5.size))
                  go_roundw
                  case measure => simp [intOf]; omega
                  case rel =>
                    have h7 : w7.ownsRow V0.heap.size 5 1 v7 (hd ++ lt ++ varsT (gapT q) (ys.take (k + 1))).length ((hd ++ lt ++ varsT (gapT q) (ys.take (k + 1))).map (Value.int .u8)) := by
                      rw [HSJ.out, itoa_digits hl12]
                      rw [if_pos h9a]
                      have h8 := hown7
                      simpa [Int.natCast_emod, Nat.add_assoc] using h8
                    exact ⟨k + 1, by omega, by go_num, h7, hz6.trans hap7.below⟩
                | false =>
                  have h9a := of_decide_eq_false h9
                  have h9b : decide ((9 : Int) < ln) = false := decide_eq_false (by omega)
                  go_wp2_with (first
                    | (go_at_call 5; refine (HG.out _).mono ?_; rintro e w' ⟨rfl, rfl⟩)
                    | (at_builtin; refine wpList_app1G (Value.int .u8) 34 5 (.int .u8 0) 1 Tryd.underlying34 infoU8 rfl (by decide) rfl _ _ rfl w5 V0.heap.size _ _ _ _ rfl hown5 hs5 (by have := HKJ.out; have := gapT_len q; omega) rfl rfl ?_; intro v7 w7 hown7 hap7)
                    | (at_builtin; refine wpList_appStr rfl _ _ rfl _ V0.heap.size _ _ _ (gapT q) (gapT_bts q) (HO.out.alloc _) (by simp; omega) (by have := HKJ.out; have := gapT_len q; omega) rfl rfl ?_; intro v5 w5 hown5 hb5; have hz5 := (hzr2.alloc hszr2 _).trans hb5; have hs5 := hz5.size))
                  go_roundw
                  case measure => simp [intOf]; omega
                  case rel =>
                    have h7 : w7.ownsRow V0.heap.size 5 1 v7 (hd ++ lt ++ varsT (gapT q) (ys.take (k + 1))).length ((hd ++ lt ++ varsT (gapT q) (ys.take (k + 1))).map (Value.int .u8)) := by
                      rw [HSJ.out, itoa_digits hl12]
                      rw [if_neg h9a]
                      have h8 := hown7
                      simpa [Int.natCast_emod, Nat.add_assoc] using h8
                    exact ⟨k + 1, by omega, by go_num, h7, hz5.trans hap7.below⟩
              · have hkm : k = ml := by omega
                subst hkm
                have HTK := Lib.hid (show ys.take k = ys from List.take_of_length_le (by rw [HML.out]; exact Nat.le_refl _))
                have HKE := Lib.hid (HHL2.out k)
                rw [HTK.out] at HO HKE
                go_wp2_with (at_builtin; refine wpList_appStr rfl _ _ rfl wr V0.heap.size _ _ _ [32, 48, 10] (by intro x hx; simp at hx; omega) HO.out hszr2 (by have := HKE.out; simp at this ⊢; omega) rfl rfl ?_; intro v5 w5 hown5 hb5; have hz5 := hzr2.trans hb5; have HO5 := Lib.hid hown5; clear hown5)
                go_roundw
                case measure => simp [intOf]; omega
                case rel =>
                  have h5 := HO5.out
                  rw [← List.length_append, ← HH2.out] at h5
                  exact ⟨j + 1, by omega, by go_num, ⟨.inr h5, fun _ => h5⟩, hz5⟩
          | false =>
            go_wp2_with (at_builtin; refine wpList_appT rfl _ _ rfl w0 V0.heap.size _ hd [97] (by intro x hx; simp at hx; omega) (by decide) HT.out.1 hszr (by have := HHL.out; simp; omega) rfl rfl ?_; intro v4 w4 hown4 hb4; have hz4 := hzr.trans hb4; have HO4 := Lib.hid hown4; clear hown4)
            have HST : Hid (w4.ownsRow V0.heap.size 5 1 v4 (hd ++ letL false ++ varsT (gapT q) (ys.take 0)).length ((hd ++ letL false ++ varsT (gapT q) (ys.take 0)).map (Value.int .u8))) := by
              rw [List.take_zero, show varsT (gapT q) [] = [] from rfl, List.append_nil]
              have := HO4.out
              rw [← List.length_append] at this
              exact this
            have HHL2 : Hid (∀ k, (hd ++ letL false ++ varsT (gapT q) (ys.take k)).length ≤ 213) := fun k => by
              have h1 := HHL.out
              have h2 := HVL.out k
              have h3 := (let_tok false).2.2.2
              show (hd ++ letL false ++ varsT (gapT q) (ys.take k)).length ≤ 213
              simp only [List.length_append]
              omega
            have HH2 : Hid (headT 12 0 ++ (bs.take (j + 1)).flatMap (blkT (gapT q)) = hd ++ letL false ++ varsT (gapT q) ys ++ [32, 48, 10]) := by
              unfold Hid
              rw [HH1.out, HBE.out]
              simp
            clear HO4 HT HH1 HBE
            generalize letL false = lt at *
            go_loopw [13, 15] (fun tv i wr => ∃ (k : Nat), k ≤ ml ∧ i = .int .i64 k ∧ Hid (wr.ownsRow V0.heap.size 5 1 tv (hd ++ lt ++ varsT (gapT q) (ys.take k)).length ((hd ++ lt ++ varsT (gapT q) (ys.take k)).map (Value.int .u8))) ∧ Below V0.heap.size V0 wr) (fun _ i _ => ml - (intOf i).toNat)
            case atStart => exact ⟨0, Nat.zero_le _, rfl, HST.out, hz4⟩
            case round =>
              obtain ⟨k, hk, rfl, HO, hzr2⟩ := hrel
              clear HST
              have hszr2 := hzr2.size
              obtain ⟨hq4, hq5, hq6⟩ := HPC.out _ hzr2
              have g3 := HG1.out _ hzr2
              by_cases hkl : k < ml
              · obtain ⟨vb, vo, hav, g4⟩ := HROW.out _ hzr2 k hkl
                subst hav
                have hky : k < ys.length := by rw [HML.out]; exact hkl
                have HLB := Lib.hid (HMB.out _ (getD_memI hky))
                have HSJ := Lib.hid (take_varsT (gapT q) ys k hky)
                have HKJ := Lib.hid (HHL2.out k)
                clear hky
                obtain ⟨ln, hln⟩ : ∃ ln : Nat, ys.getD k 0 = ln := ⟨(ys.getD k 0).toNat, by have := HLB.out; omega⟩
                rw [hln] at HLB HSJ g4
                clear hln
                have hl12 : ln ≤ 12 := by have := HLB.out; omega
                have g5 : (wr.alloc (.cells #[.string ⟨#[32]⟩, .string ⟨#[10]⟩, .string ⟨#[32, 9]⟩] 9)).cell? ⟨wr.heap.size, q, none⟩ = some (.string (strOfNums (gapT q))) := by
                  rw [World.cell?_alloc_at _ _ _ _ rfl]
                  match q, hql with
                  | 0, _ => rfl
                  | 1, _ => rfl
                  | 2, _ => rfl
                have hq3' : (q : Int) < 3 := by omega
                cases h9 : decide (9 < ln) with
                | true =>
                  have h9a := of_decide_eq_true h9
                  have h9b : decide ((9 : Int) < ln) = true := decide_eq_true (by omega)
                  go_wp2_with (first
                    | (go_at_call 5; refine (HG.out _).mono ?_; rintro e w' ⟨rfl, rfl⟩)
                    | (at_builtin; refine wpList_app1G (Value.int .u8) 34 5 (.int .u8 0) 1 Tryd.underlying34 infoU8 rfl (by decide) rfl _ _ rfl w6 V0.heap.size _ _ _ _ rfl hown6 hs6 (by have := HKJ.out; have := gapT_len q; omega) rfl rfl ?_; intro v7 w7 hown7 hap7)
                    | (at_builtin; refine wpList_app1G (Value.int .u8) 34 5 (.int .u8 0) 1 Tryd.underlying34 infoU8 rfl (by decide) rfl _ _ rfl w5 V0.heap.size _ _ _ 49 rfl hown5 hs5 (by have := HKJ.out; have := gapT_len q; omega) rfl rfl ?_; intro v6 w6 hown6 hap6; have hz6 := hz5.trans hap6.below; have hs6 := hz6.size)
                    | (at_builtin; refine wpList_appStr rfl _ _ rfl _ V0.heap.size _ _ _ (gapT q) (gapT_bts q) (HO.out.alloc _) (by simp; omega) (by have := HKJ.out; have := gapT_len q; omega) rfl rfl ?_; intro v5 w5 hown5 hb5; have hz5 := (hzr2.alloc hszr2 _).trans hb5; have hs5 := hz5.size))
                  go_roundw
                  case measure => simp [intOf]; omega
                  case rel =>
                    have h7 : w7.ownsRow V0.heap.size 5 1 v7 (hd ++ lt ++ varsT (gapT q) (ys.take (k + 1))).length ((hd ++ lt ++ varsT (gapT q) (ys.take (k + 1))).map (Value.int .u8)) := by
                      rw [HSJ.out, itoa_digits hl12]
                      rw [if_pos h9a]
                      have h8 := hown7
                      simpa [Int.natCast_emod, Nat.add_assoc] using h8
                    exact ⟨k + 1, by omega, by go_num, h7, hz6.trans hap7.below⟩
                | false =>
                  have h9a := of_decide_eq_false h9
                  have h9b : decide ((9 : Int) < ln) = false := decide_eq_false (by omega)
                  go_wp2_with (first
                    | (go_at_call 5; refine (HG.out _).mono ?_; rintro e w' ⟨rfl, rfl⟩)
                    | (at_builtin; refine wpList_app1G (Value.int .u8) 34 5 (.int .u8 0) 1 Tryd.underlying34 infoU8 rfl (by decide) rfl _ _ rfl w5 V0.heap.size _ _ _ _ rfl hown5 hs5 (by have := HKJ.out; have := gapT_len q; omega) rfl rfl ?_; intro v7 w7 hown7 hap7)
                    | (at_builtin; refine wpList_appStr rfl _ _ rfl _ V0.heap.size _ _ _ (gapT q) (gapT_bts q) (HO.out.alloc _) (by simp; omega) (by have := HKJ.out; have := gapT_len q; omega) rfl rfl ?_; intro v5 w5 hown5 hb5; have hz5 := (hzr2.alloc hszr2 _).trans hb5; have hs5 := hz5.size))
                  go_roundw
                  case measure => simp [intOf]; omega
                  case rel =>
                    have h7 : w7.ownsRow V0.heap.size 5 1 v7 (hd ++ lt ++ varsT (gapT q) (ys.take (k + 1))).length ((hd ++ lt ++ varsT (gapT q) (ys.take (k + 1))).map (Value.int .u8)) := by
                      rw [HSJ.out, itoa_digits hl12]
                      rw [if_neg h9a]
                      have h8 := hown7
                      simpa [Int.natCast_emod, Nat.add_assoc] using h8
                    exact ⟨k + 1, by omega, by go_num, h7, hz5.trans hap7.below⟩
              · have hkm : k = ml := by omega
                subst hkm
                have HTK := Lib.hid (show ys.take k = ys from List.take_of_length_le (by rw [HML.out]; exact Nat.le_refl _))
                have HKE := Lib.hid (HHL2.out k)
                rw [HTK.out] at HO HKE
                go_wp2_with (at_builtin; refine wpList_appStr rfl _ _ rfl wr V0.heap.size _ _ _ [32, 48, 10] (by intro x hx; simp at hx; omega) HO.out hszr2 (by have := HKE.out; simp at this ⊢; omega) rfl rfl ?_; intro v5 w5 hown5 hb5; have hz5 := hzr2.trans hb5; have HO5 := Lib.hid hown5; clear hown5)
                go_roundw
                case measure => simp [intOf]; omega
                case rel =>
                  have h5 := HO5.out
                  rw [← List.length_append, ← HH2.out] at h5
                  exact ⟨j + 1, by omega, by go_num, ⟨.inr h5, fun _ => h5⟩, hz5⟩
        · have hjn : j = nb := by omega
          have hj0 : 0 < nb := by have := HNB.out; have := HBLN.out; unfold Hid at *; omega
          have hT : bs.take j = bs := List.take_of_length_le (by rw [HNB.out]; omega)
          have HTO := Lib.hid (HT.out.2 (by omega))
          rw [hT] at HTO
          have hgt : headT 12 0 ++ bs.flatMap (blkT (gapT q)) = gText (gapT q) bs := rfl
          rw [hgt] at HTO
          have HTL : Hid ((gText (gapT q) bs).length ≤ 200) := by
            have := HGL.out j
            rw [hT, hgt] at this
            exact this
          clear HT hT hgt HGL HSTEP hj0
          subst hjn
          have HTB := Lib.hid (gText_bts (gapT q) (gapT_bts q) bs)
          have HR1 := Lib.hid (gText_read (gapT q) (gapT_skip q) bs _ HB.out.ok)
          have HR2 := Lib.hid (gText_bad (gapT q) (gapT_skip q) bs _ HB.out.ok true 13 (by omega) (by omega) (by omega) (okV_13 _))
          have HR3 := Lib.hid (fun h1 : 1 ≤ u => gText_bad (gapT q) (gapT_skip q) bs _ HB.out.ok false 1 (by omega) (by omega) (by omega) (okV_1 h1))
          rw [bad13] at HR2
          rw [bad1] at HR3
          generalize gText (gapT q) bs = T at *
          obtain ⟨at5, ct5, rfl, _, _⟩ := own_shape HTO.out
          have HTG := Lib.hid (own_rowG (d := 0) HTO.out)
          have HWr := Lib.hid (HWV.out.trans (hzr.mono HWV.out.size))
          generalize hTn : T.length = tn at *
          have HTN := Lib.hid hTn; clear hTn
          go_wp2_with fail
          obtain ⟨ws1, h1⟩ := HR1.out
          have HX1 := HRD.out _ HWr.out _ T HTG.out HTB.out (by rw [HTN.out]; have := HTL.out; unfold Hid at *; omega)
          rw [h1] at HX1
          dsimp only at HX1
          clear h1 HR1
          refine HX1.mono ?_
          clear HX1
          rintro e w6 ⟨⟨bv, cv, ov, rfl, hB6, hC6, hO6⟩, hb6⟩
          obtain rfl : ov = .nilIface := hO6
          obtain ⟨xa, xc, rfl, hXB⟩ := hB6.rows
          obtain ⟨ya, yc, rfl, hXC⟩ := hC6.rows
          rw [HNB.out]
          rw [show (([] : List (List Int)).length) = 0 from rfl]
          have hA6 := hb6.alloc hb6.size (.cells #[.slice xa j xc, .int .i64 12, .slice ya 0 yc] 30)
          have HXB := Lib.hid hXB
          have HXC := Lib.hid hXC
          clear hB6 hC6 hXB hXC
          go_wp2_with (first
            | (go_at_call 7; refine (HCB.out _ _ T (HTG.out.keep hA6) (by rw [HTN.out]; have := HTL.out; unfold Hid at *; omega)).mono ?_; rintro e w7 ⟨⟨v7, rfl, ho7⟩, hb7⟩; obtain ⟨a7, k7, c7, rfl, HK7, HO7⟩ := bopen ho7; clear ho7)
            | (at_builtin; refine wpList_appStr rfl _ _ rfl w7 _ _ _ T [101, 32, 49, 51, 32, 48] (by intro x hx; simp at hx; omega) HO7.out hb7.size (by rw [HK7.out, HTN.out]; have := HTL.out; unfold Hid at *; simp; omega) rfl rfl ?_; intro v8 w8 hown8 hb8; have hb78 := hb7.trans hb8; have HR8 := Lib.hid (own_rowG (d := 0) hown8); clear hown8))
          have HW8 := HWr.out.trans ((hA6.trans (hb78.mono hA6.size)).mono HWr.out.size)
          obtain ⟨ws2, k2, h2, h2p⟩ := HR2.out
          have HX2 := HRD.out _ HW8 _ (T ++ [101, 32, 49, 51, 32, 48]) HR8.out (HTB.out.append (by intro x hx; simp at hx; omega)) (by rw [List.length_append, HTN.out]; have := HTL.out; unfold Hid at *; simp; omega)
          rw [h2] at HX2
          dsimp only at HX2
          clear h2 HR2
          refine HX2.mono ?_
          clear HX2
          rintro e w9 ⟨⟨bv, cv, ov, rfl, hB9, hC9, hO9⟩, hb9⟩
          have HE9 : Hid (ErrAs w9 ov 101 true ((tn : Int) + 2)) := by
            have h9 : ErrAs w9 ov 101 true (posL ws2 k2 _) := hO9.err (HSN.out _ (HW8.trans (hb9.mono HW8.size)))
            rw [h2p] at h9
            exact h9
          clear hO9 h2p
          obtain ⟨za, zc, rfl, _⟩ := hB9.rows
          obtain ⟨ra, rc, rfl, _⟩ := hC9.rows
          rw [show (([] : List (List Int)).length) = 0 from rfl, show (([] : List Blk).length) = 0 from rfl]
          clear hB9 hC9
          have hb789 := hb78.trans (hb9.mono hb78.size)
          have hA9 := hb789.alloc hb789.size (.cells #[.slice za 0 zc, .int .i64 0, .slice ra 0 rc] 30)
          obtain ⟨x0, x1, x2⟩ := cells3 w6 _ _ _ _ _ hA9
          have hV9 : Below wr.heap.size wr _ := hA6.trans (hA9.mono hA6.size)
          have h69 : Below w6.heap.size w6 _ := ((Below.refl _ w6).alloc (Nat.le_refl _) (.cells #[.slice xa j xc, .int .i64 12, .slice ya 0 yc] 30)).trans (hA9.mono (by simp))
          obtain ⟨y0, y1, y2⟩ := HPC.out _ (hzr.trans (hV9.mono hszr))
          have HW9 := HWr.out.trans (hV9.mono HWr.out.size)
          have hSF := sameFormula_yes 12 xa (some ⟨fb, fo, none⟩) xc co2 bs ya none yc 0 [] _ (HXB.out.keep h69) (HBV.out.keep (hzr.trans (hV9.mono hszr))) (HXC.out.keep h69) ⟨Nat.le_refl _, by unfold maxLen; omega, .inl rfl⟩
          rw [HNB.out, show (([] : List (List Int)).length) = 0 from rfl] at hSF
          have HSF := Lib.hid hSF
          clear hSF
          have HE10 := Lib.hid (HE9.out.keep ((Below.refl _ w9).alloc (Nat.le_refl _) (.cells #[.slice za 0 zc, .int .i64 0, .slice ra 0 rc] 30)))
          clear HE9
          unfold faultV at HP HY
          have htn : tn ≤ 200 := HTL.out
          have htn2 : (tn : Int) ≤ 200 := by omega
          cases hu0 : decide (u = 0) with
          | true =>
            have hu1 := of_decide_eq_true hu0
            subst hu1
            go_wp2_with (first
              | (go_at_call 8; refine HSF.out.mono ?_; rintro e w10 ⟨rfl, hb10⟩)
              | (go_at_call 10; refine (HP.out _ _).mono ?_; rintro e w11 ⟨rfl, hb11⟩; have hb1011 := hb10.trans (hb11.mono hb10.size))
              | (go_at_call 9; refine (HY.out _ _ _ (HE10.out.keep hb1011)).mono ?_; rintro e w12 ⟨rfl, hb12⟩; have hb1012 := hb1011.trans (hb12.mono hb1011.size)))
            (try go_ret)
            exact ⟨rfl, HW9.trans (hb1012.mono HW9.size)⟩
          | false =>
            have hu1 := of_decide_eq_false hu0
            have hu2 : ((u : Int) == 0) = false := beq_eq_false_iff_ne.2 (by omega)
            have hu3 : ((u : Int) + 1 == 1) = false := beq_eq_false_iff_ne.2 (by omega)
            have hu4 : (u == 0) = false := beq_eq_false_iff_ne.2 hu1
            obtain ⟨ws3, k3, h3, h3p⟩ := HR3.out (by omega)
            go_wp2_with (first
              | (go_at_call 8; refine HSF.out.mono ?_; rintro e w10 ⟨rfl, hb10⟩)
              | (go_at_call 10; refine (HP.out _ _).mono ?_; rintro e w11 ⟨rfl, hb11⟩; have hb1011 := hb10.trans (hb11.mono hb10.size))
              | (go_at_call 9; refine (HY.out _ _ _ (HE10.out.keep hb1011)).mono ?_; rintro e w12 ⟨rfl, hb12⟩; have hb1012 := hb1011.trans (hb12.mono hb1011.size); have HW12 := HW9.trans (hb1012.mono HW9.size); have hV12 := hV9.trans (hb1012.mono hV9.size))
              | (go_at_call 7; refine (HCB.out _ _ T (HTG.out.keep hV12) (by rw [HTN.out]; omega)).mono ?_; rintro e w13 ⟨⟨v13, rfl, ho13⟩, hb13⟩; obtain ⟨a13, k13, c13, rfl, HK13, HO13⟩ := bopen ho13; clear ho13)
              | (at_builtin; refine wpList_appStr rfl _ _ rfl w13 _ _ _ T [97, 32, 49, 32, 48] (by intro x hx; simp at hx; omega) HO13.out hb13.size (by rw [HK13.out, HTN.out]; simp; omega) rfl rfl ?_; intro v14 w14 hown14 hb14; have hb1314 := hb13.trans hb14; have HR14 := Lib.hid (own_rowG (d := 0) hown14); clear hown14))
            have HW14 := HW12.trans (hb1314.mono HW12.size)
            have HX3 := HRD.out _ HW14 _ (T ++ [97, 32, 49, 32, 48]) HR14.out (HTB.out.append (by intro x hx; simp at hx; omega)) (by rw [List.length_append, HTN.out]; simp; omega)
            rw [h3] at HX3
            dsimp only at HX3
            clear h3 HR3
            refine HX3.mono ?_
            clear HX3
            rintro e w15 ⟨⟨bv, cv, ov3, rfl, hB15, hC15, hO15⟩, hb15⟩
            have HW15 := HW14.trans (hb15.mono HW14.size)
            have HE15 : Hid (ErrAs w15 ov3 101 true ((tn : Int) + 2)) := by
              have h9 : ErrAs w15 ov3 101 true (posL ws3 k3 _) := hO15.err (HSN.out _ HW15)
              rw [h3p] at h9
              exact h9
            clear hO15 h3p
            obtain ⟨sa, sc, rfl, _⟩ := hB15.rows
            obtain ⟨qa, qc, rfl, _⟩ := hC15.rows
            rw [show (([] : List (List Int)).length) = 0 from rfl, show (([] : List Blk).length) = 0 from rfl]
            clear hB15 hC15
            have HE16 := Lib.hid (HE15.out.keep ((Below.refl _ w15).alloc (Nat.le_refl _) (.cells #[.slice sa 0 sc, .int .i64 0, .slice qa 0 qc] 30)))
            have HW16 := HW15.alloc HW15.size (.cells #[.slice sa 0 sc, .int .i64 0, .slice qa 0 qc] 30)
            clear HE15
            go_wp2_with (first
              | (go_at_call 10; refine (HP.out _ _).mono ?_; rintro e w17 ⟨rfl, hb17⟩)
              | (go_at_call 9; refine (HY.out _ _ _ (HE16.out.keep hb17)).mono ?_; rintro e w18 ⟨rfl, hb18⟩; have hb1718 := hb17.trans (hb18.mono hb17.size))
              | (go_at_call 11; refine (HNR.out _).mono ?_; rintro e w' ⟨rfl, rfl⟩))
            (try go_ret)
            exact ⟨rfl, HW16.trans (hb1718.mono HW16.size)⟩
end Go.Proofs.YtfoohdknjacenaaDoor

namespace Go.Proofs.YtfoohdknjacenaaDoor
open Go.RowKit

set_option maxRecDepth 8000 in
set_option maxHeartbeats 2000000 in
theorem lawBlocks (A : Nat → Addr) (ka : Option Addr) (kc : Nat) (ks : List Bool) (ca : Option Addr) (cc : Nat) (cs : List Int) (gap : Int) (w : World) (hS : Sents8 w A) (ht : Tabs w) (hk : RowGAt Value.bool false w ka kc ks) (hc : RowAt w ca cc cs) :
    Calls Tryd.prog 3 #[.slice ka ks.length kc, .slice ca cs.length cc, .int .i64 gap] w fun e w' => e = .returned (.bool true) ∧ Below w.heap.size w w' := by
  have HF := Lib.hid (first5_any A w hS ht)
  cases h0 : decide (ks.length = 0) with
  | true =>
    have h0' := of_decide_eq_true h0
    rw [h0']
    clear hS ht hk hc h0 h0'
    generalize cs.length = nc at *
    go_enter Tryd.func3, Tryd.ntmps3
    go_wp2_with (go_at_call 4; refine HF.out.mono ?_; rintro e w1 ⟨rfl, hb1⟩)
    (try go_ret)
    exact ⟨rfl, hb1⟩
  | false =>
    have h0' := of_decide_eq_false h0
    have hnz : ((ks.length : Int) == 0) = false := beq_eq_false_iff_ne.2 (by omega)
    cases h8 : decide ((8 : Int) < ks.length) with
    | true =>
      have h8' : decide (8 < ks.length) = true := decide_eq_true (by have := of_decide_eq_true h8; omega)
      clear hS ht hk hc h0 h0'
      generalize cs.length = nc at *
      generalize ks.length = nk at *
      go_enter Tryd.func3, Tryd.ntmps3
      go_wp2_with (go_at_call 4; refine HF.out.mono ?_; rintro e w1 ⟨rfl, hb1⟩)
      (try go_ret)
      exact ⟨rfl, hb1⟩
    | false =>
      have h8' := of_decide_eq_false h8
      cases hn : decide ((cs.length : Int) < ks.length) with
      | true =>
        have hn' : decide (cs.length < ks.length) = true := decide_eq_true (by have := of_decide_eq_true hn; omega)
        have h9' : decide (8 < ks.length) = false := decide_eq_false (by omega)
        clear hS ht hk hc h0 h0' h8'
        generalize cs.length = nc at *
        generalize ks.length = nk at *
        go_enter Tryd.func3, Tryd.ntmps3
        go_wp2_with (go_at_call 4; refine HF.out.mono ?_; rintro e w1 ⟨rfl, hb1⟩)
        (try go_ret)
        exact ⟨rfl, hb1⟩
      | false =>
        have hn' := of_decide_eq_false hn
        exact blocks_in A ka kc ks ca cc cs gap w hS ht hk hc (by omega) (by omega) (by omega)
end Go.Proofs.YtfoohdknjacenaaDoor
