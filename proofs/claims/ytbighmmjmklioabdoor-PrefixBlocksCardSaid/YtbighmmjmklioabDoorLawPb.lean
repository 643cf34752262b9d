/- The law PrefixBlocks: true for whatever arguments. Conditions: the numbers are 64-bit ints; the errors lie as 'Sents' says. -/
import Derived.Test.YtbighmmjmklioabDoorPbP
import Derived.Test.YtbighmmjmklioabDoorFmG
import Derived.Test.YtbighmmjmklioabDoorMod
import Derived.Test.YtbighmmjmklioabDoorErrRA
import Derived.Deep.RegionHeld3
namespace Go.Proofs.YtbighmmjmklioabDoor
open Go.RowKit

theorem own_sh9 {w : World} {B s : Nat} {e : TypeId} {v : Value} {n : Nat} {xs : List Value} (h : w.ownsRow B e s v n xs) : ∃ a cap, v = .slice a n cap ∧ n ≤ cap ∧ cap ≤ maxLen := by
  rcases h.2 with ⟨e0, e1⟩ | ⟨g, cap, cur, hv, hb, hg, h1, h2, _⟩
  · exact ⟨none, 0, by rw [e0, e1], by omega, by unfold maxLen; omega⟩
  · exact ⟨_, cap, hv, h1, h2⟩
/-- What holds when the law has made k blocks. -/
def PbR1 (W3 : World) (p : Nat) (f : Bool) (ns : List Nat) (v kd i : Value) (wr : World) : Prop :=
  ∃ (k : Nat) (fl : List Value) (ov : Value), k ≤ 3 ∧ i = .int .i64 k ∧ v = .int .i64 ((totB ns k : Int) + 1) ∧ kd = .bool (kdB f k) ∧ FmG wr (p + 1) 0 ov (.slice none 0 0) (.slice none 0 0) (bsB f ns k) fl [] [] ∧ wr.cell? ⟨p, 0, none⟩ = some ov ∧ wr.cell? ⟨p, 1, none⟩ = some (.int .i64 12) ∧ wr.cell? ⟨p, 2, none⟩ = some (.slice none 0 0) ∧ (∀ q, wr.frozen? ⟨p, q, none⟩ = false) ∧ Below p W3 wr ∧ p + 1 ≤ wr.heap.size

set_option maxRecDepth 8000 in
set_option maxHeartbeats 8000000 in
theorem lawPb_any (A : Nat → Addr) (x y z : Int) (f : Bool) (w : World) (hS : Sents w A) :
    Calls Tryd.prog 4 #[.int .i64 x, .int .i64 y, .int .i64 z, .bool f] w fun e w' => e = .returned (.bool true) ∧ Below w.heap.size w w' := by
  have HF := Lib.hid (first6_any A w hS.three)
  have NX := Lib.hid (fun W => modNum_any x 4 (by omega) (by omega) W)
  have NY := Lib.hid (fun W => modNum_any y 4 (by omega) (by omega) W)
  have NZ := Lib.hid (fun W => modNum_any z 4 (by omega) (by omega) W)
  have la := modN_lt x (show 0 < 4 by omega)
  have lb := modN_lt y (show 0 < 4 by omega)
  have lc := modN_lt z (show 0 < 4 by omega)
  generalize modN x 4 = na at *
  generalize modN y 4 = nb at *
  generalize modN z 4 = nc at *
  have HPS := Lib.hid (pb_say f na nb nc la lb lc)
  have HSN := Lib.hid (fun W (hW : Below w.heap.size w W) => hS.keep hW)
  have HNS : Hid (∀ k, k < 3 → [na, nb, nc].getD k 0 < 4) := fun k hk => by
    match k, hk with
    | 0, _ => exact la
    | 1, _ => exact lb
    | 2, _ => exact lc
  clear hS
  go_enter Tryd.func4, Tryd.ntmps4
  go_wp2_with fail
  refine HF.out.mono ?_
  rintro e w1 ⟨rfl, hb1⟩
  go_wp2_with fail
  refine (NX.out _).mono ?_
  rintro e w' ⟨rfl, rfl⟩
  go_wp2_with fail
  refine (NY.out _).mono ?_
  rintro e w' ⟨rfl, rfl⟩
  go_wp2_with fail
  refine (NZ.out _).mono ?_
  rintro e w' ⟨rfl, rfl⟩
  go_wp2_with fail
  have hw2 := hb1.alloc hb1.size (.cells #[.int .i64 (na : Int), .int .i64 (nb : Int), .int .i64 (nc : Int)] 3)
  have hb2 : Below w1.heap.size w1 (w1.alloc (.cells #[.int .i64 (na : Int), .int .i64 (nb : Int), .int .i64 (nc : Int)] 3)) := (Below.refl _ _).alloc (Nat.le_refl _) _
  have hn2 : ∀ k, k < 3 → (w1.alloc (.cells #[.int .i64 (na : Int), .int .i64 (nb : Int), .int .i64 (nc : Int)] 3)).cell? ⟨w1.heap.size, k, none⟩ = some (.int .i64 (([na, nb, nc].getD k 0 : Nat) : Int)) := fun k hk => by
    rw [World.cell?_alloc_at _ _ _ _ rfl]
    match k, hk with
    | 0, _ => rfl
    | 1, _ => rfl
    | 2, _ => rfl
  have hs2 : (w1.alloc (.cells #[.int .i64 (na : Int), .int .i64 (nb : Int), .int .i64 (nc : Int)] 3)).heap.size = w1.heap.size + 1 := by simp
  generalize w1.alloc (.cells #[.int .i64 (na : Int), .int .i64 (nb : Int), .int .i64 (nc : Int)] 3) = w2 at *
  have hw3 := hw2.alloc hw2.size (.cells #[.slice none 0 0, .int .i64 12, .slice none 0 0] 27)
  obtain ⟨hp1, hp2, hp3⟩ := cells3 w2 (w2.alloc (.cells #[.slice none 0 0, .int .i64 12, .slice none 0 0] 27)) _ _ _ _ (Below.refl _ _)
  have hpf : ∀ k, (w2.alloc (.cells #[.slice none 0 0, .int .i64 12, .slice none 0 0] 27)).frozen? ⟨w2.heap.size, k, none⟩ = false := fun k => World.frozen?_alloc_at _ _ _ _ (by simp)
  have hn3 : ∀ k, k < 3 → (w2.alloc (.cells #[.slice none 0 0, .int .i64 12, .slice none 0 0] 27)).cell? ⟨w1.heap.size, k, none⟩ = some (.int .i64 (([na, nb, nc].getD k 0 : Nat) : Int)) := fun k hk => (((Below.refl _ w2).alloc (Nat.le_refl _) (.cells #[.slice none 0 0, .int .i64 12, .slice none 0 0] 27)).cell (p := ⟨w1.heap.size, k, none⟩) (by show w1.heap.size < w2.heap.size; omega)).trans (hn2 k hk)
  have hs3 : (w2.alloc (.cells #[.slice none 0 0, .int .i64 12, .slice none 0 0] 27)).heap.size = w2.heap.size + 1 := by simp
  generalize hW3 : w2.alloc (.cells #[.slice none 0 0, .int .i64 12, .slice none 0 0] 27) = W3 at *
  have hsz2 := hw2.size
  clear hW3 hn2 hw2 hb2 hb1
  have hp0 : w.heap.size ≤ w2.heap.size := hsz2
  have hbp : w1.heap.size < w2.heap.size := by omega
  try rw [← hs2]
  clear hs2
  generalize hpp : w2.heap.size = p at *
  generalize hbb : w1.heap.size = bn at *
  clear hpp hbb
  have HN : Hid (∀ W, Below p W3 W → ∀ k, k < 3 → W.cell? ⟨bn, k, none⟩ = some (.int .i64 (([na, nb, nc].getD k 0 : Nat) : Int))) := fun W hW k hk => (hW.cell (p := ⟨bn, k, none⟩) (by show bn < p; omega)).trans (hn3 k hk)
  have HW3 := Lib.hid hw3
  clear hn3 hw3
  have HNL : Hid ([na, nb, nc].length = 3) := rfl
  have HTB := Lib.hid (fun k (hk : k < 3) => totB_succ [na, nb, nc] k hk)
  have HTL : Hid (∀ k, k ≤ 3 → totB [na, nb, nc] k ≤ 9) := fun k hk => by
    match k, hk with
    | 0, _ => simp [totB]
    | 1, _ => simp [totB]; omega
    | 2, _ => simp [totB]; omega
    | 3, _ => simp [totB]; omega
  generalize hns : [na, nb, nc] = ns at *
  have HNSV := Lib.hid hns
  clear hns
  go_loopw [12, 13, 14] (fun v kd i wr => PbR1 W3 p f ns v kd i wr) (fun _ _ i _ => 3 - (intOf i).toNat)
  case atStart => exact ⟨0, [], _, by omega, rfl, rfl, rfl, FmG.start _ _ _ (by omega), hp1, hp2, hp3, hpf, Below.refl _ _, by omega⟩
  case round =>
    obtain ⟨k, fl, ov, hk, rfl, rfl, rfl, hfm, hp1, hp2, hp3, hpf, hbr, hsr⟩ := hrel
    have hszr := hbr.size
    obtain ⟨ao, co2, rfl, _, hco2⟩ := own_sh9 hfm.out
    unfold maxLen at hco2
    have HBL := Lib.hid (bsB_len f ns k)
    by_cases hlt : k < 3
    · have hd1 : decide ((k : Int) < 3) = true := decide_eq_true (by omega)
      have hd2 : decide (k < 3) = true := decide_eq_true hlt
      have hnk := HNS.out k hlt
      have htk := HTL.out k (by omega)
      have HNX : Hid (bsB f ns (k + 1) = bsB f ns k ++ [(kdB f k, sqI (totB ns k) (ns.getD k 0))]) := rfl
      have HT2 := Lib.hid (HTB.out k hlt)
      have HKS := Lib.hid (kdB_succ f k)
      have hbx := hbr.alloc (Nat.le_trans (Nat.le_succ p) hsr) (.cells #[.bool (kdB f k), .slice none 0 0] 50)
      have HNK : Hid (∀ W, Below p W3 W → W.cell? ⟨bn, k, none⟩ = some (.int .i64 ((ns.getD k 0 : Nat) : Int))) := fun W hW => HN.out W hW k hlt
      have hwx : Below wr.heap.size wr (wr.alloc (.cells #[.bool (kdB f k), .slice none 0 0] 50)) := (Below.refl _ _).alloc (Nat.le_refl _) _
      have hfx := hfm.fresh hwx (by simp)
      have hxc := cells2 wr (wr.alloc (.cells #[.bool (kdB f k), .slice none 0 0] 50)) _ _ _ (Below.refl _ _)
      have hxf : ∀ q, (wr.alloc (.cells #[.bool (kdB f k), .slice none 0 0] 50)).frozen? ⟨wr.heap.size, q, none⟩ = false := fun k => World.frozen?_alloc_at _ _ _ _ (by simp)
      have hq1 := (hwx.cell (p := ⟨p, 0, none⟩) (by show p < _; omega)).trans hp1
      have hq2 := (hwx.cell (p := ⟨p, 1, none⟩) (by show p < _; omega)).trans hp2
      have hq3 := (hwx.cell (p := ⟨p, 2, none⟩) (by show p < _; omega)).trans hp3
      have hqf : ∀ q, (wr.alloc (.cells #[.bool (kdB f k), .slice none 0 0] 50)).frozen? ⟨p, q, none⟩ = false := fun q => (hwx.frozen (p := ⟨p, q, none⟩) (by show p < _; omega)).trans (hpf q)
      have hsx : (wr.alloc (.cells #[.bool (kdB f k), .slice none 0 0] 50)).heap.size = wr.heap.size + 1 := by simp
      have hbl : (bsB f ns k).length ≤ 3 := by rw [HBL.out]; omega
      generalize bsB f ns k = bs at *
      generalize kdB f k = ex at *
      generalize totB ns k = u at *
      generalize ns.getD k 0 = nk at *
      go_wp2_with fail
      generalize wr.alloc (.cells #[.bool ex, .slice none 0 0] 50) = wx at *
      generalize hX : wr.heap.size = X at *
      clear hX
      go_loopw [12, 16] (fun v n wr2 => ∃ (m : Nat) (xv : Value), v = .int .i64 (((u + m : Nat) : Int) + 1) ∧ n = .int .i64 m ∧ m ≤ nk ∧ FmG wr2 (p + 1) X (.slice ao bs.length co2) (.slice none 0 0) xv bs fl [] (sqI u m) ∧ wr2.cell? ⟨X, 0, none⟩ = some (.bool ex) ∧ wr2.cell? ⟨X, 1, none⟩ = some xv ∧ (∀ q, wr2.frozen? ⟨X, q, none⟩ = false) ∧ wr2.cell? ⟨p, 0, none⟩ = some (.slice ao bs.length co2) ∧ wr2.cell? ⟨p, 1, none⟩ = some (.int .i64 12) ∧ wr2.cell? ⟨p, 2, none⟩ = some (.slice none 0 0) ∧ (∀ q, wr2.frozen? ⟨p, q, none⟩ = false) ∧ Below p W3 wr2 ∧ X + 1 ≤ wr2.heap.size) (fun _ n _ => nk - (intOf n).toNat)
      case atStart => exact ⟨0, _, rfl, rfl, Nat.zero_le _, hfx, hxc.1, hxc.2, hxf, hq1, hq2, hq3, hqf, hbx, by omega⟩
      case round =>
        obtain ⟨m, xv, rfl, rfl, hm, hf2, hx0, hx1, hxf2, hr1, hr2, hr3, hrf, hbr2, hsr2⟩ := hrel
        clear hfx hxc hxf hq1 hq2 hq3 hqf hbx hwx
        have hs2 := hbr2.size
        have g1 := HNK.out _ hbr2
        have HSL := Lib.hid (sqI_len u m)
        have hslm : (sqI u m).length ≤ 3 := by rw [HSL.out]; omega
        obtain ⟨ax, cx, rfl, _, hcx2⟩ := own_shape hf2.cur
        unfold maxLen at hcx2
        by_cases hmn : m < nk
        · have HSS := Lib.hid (sqI_snoc u m)
          generalize sqI u m = l at *
          go_wp2_with (at_builtin; refine wpList_app1 rfl _ _ rfl wr (p + 1) _ _ _ _ hf2.cur (by omega) (by omega) rfl rfl ?_; intro v6 w6 hown6 hap6; have hf6 := hf2.addX hap6 hown6; have hx06 := (World.cell?_of_block (a := ⟨X, 0, none⟩) (hap6.other X hf2.xlt (fun e => (hf2.xo _ e.symm).2.1 rfl))).trans hx0; have hx16 := (World.cell?_of_block (a := ⟨X, 1, none⟩) (hap6.other X hf2.xlt (fun e => (hf2.xo _ e.symm).2.1 rfl))).trans hx1; have hxf6 : ∀ q, w6.frozen? ⟨X, q, none⟩ = false := (fun q => (World.frozen?_of_block (a := ⟨X, q, none⟩) (hap6.other X hf2.xlt (fun e => (hf2.xo _ e.symm).2.1 rfl))).trans (hxf2 q)); have hxf60 := hxf6 1; obtain ⟨a6, c6, rfl, _, _⟩ := own_shape hown6)
          go_roundw
          case measure => simp [intOf]; omega
          case rel =>
            have hsz6 := hap6.below.size
            have hne : p ≠ X := by omega
            have hb6 := hbr2.trans (hap6.below.mono (Nat.le_succ p))
            have hr16 := (hap6.below.cell (p := ⟨p, 0, none⟩) (Nat.lt_succ_self _)).trans hr1
            have hr26 := (hap6.below.cell (p := ⟨p, 1, none⟩) (Nat.lt_succ_self _)).trans hr2
            have hr36 := (hap6.below.cell (p := ⟨p, 2, none⟩) (Nat.lt_succ_self _)).trans hr3
            refine ⟨m + 1, _, by congr 1, by go_num, by omega, by rw [HSS.out]; exact hf6.only (Only.setCell w6 X 1 _) (.inr rfl), ?_, World.cell?_setCell_same _ _ _ hx16, fun q => (World.frozen?_setCell _ _ _ _).trans (hxf6 q), ?_, ?_, ?_, fun q => (World.frozen?_setCell _ _ _ _).trans ((hap6.below.frozen (p := ⟨p, q, none⟩) (Nat.lt_succ_self _)).trans (hrf q)), hb6.setCell (by show p ≤ X; omega) _, by simp [World.setCell]; omega⟩
            · rw [World.cell?_setCell_other _ _ _ _ (by simp)]; exact hx06
            · rw [World.cell?_setCell_other _ _ _ _ (by simp <;> omega)]; exact hr16
            · rw [World.cell?_setCell_other _ _ _ _ (by simp <;> omega)]; exact hr26
            · rw [World.cell?_setCell_other _ _ _ _ (by simp <;> omega)]; exact hr36
        · have hmk : m = nk := by omega
          subst hmk
          generalize sqI u m = l at *
          go_wp2_with (at_builtin; refine wpList_appS 22 50 _ 2 32 Tryd.underlying22 infoBlk rfl (by decide) (by decide) rfl _ _ rfl wr (p + 1) _ bs.length fl [.bool ex, .slice ax l.length cx] (by intro y hy; simp at hy; rcases hy with rfl | rfl <;> rfl) rfl hf2.out (by omega) (by omega) _ rfl rfl rfl ?_; intro o5 w5 hown5 hap5; obtain ⟨a5, c5, rfl, _, _⟩ := own_sh9 hown5; have hr15 := (hap5.below.cell (p := ⟨p, 0, none⟩) (Nat.lt_succ_self _)).trans hr1; have hr25 := (hap5.below.cell (p := ⟨p, 1, none⟩) (Nat.lt_succ_self _)).trans hr2; have hr35 := (hap5.below.cell (p := ⟨p, 2, none⟩) (Nat.lt_succ_self _)).trans hr3; have hrf5 : ∀ q, w5.frozen? ⟨p, q, none⟩ = false := fun q => (hap5.below.frozen (p := ⟨p, q, none⟩) (Nat.lt_succ_self _)).trans (hrf q); have hrf50 := hrf5 0)
          go_roundw
          case measure => simp [intOf]; omega
          case rel =>
            have hsz5 := hap5.below.size
            have hb5 := hbr2.trans (hap5.below.mono (Nat.le_succ p))
            unfold PbR1
            refine ⟨k + 1, fl ++ [.bool ex, .slice ax l.length cx], _, by omega, by go_num, by rw [HT2.out, Int.natCast_add], by rw [HKS.out], by rw [HNX.out]; exact ((hf2.push hap5 hown5).only (Only.setCell w5 p 0 _) (.inl (Nat.lt_succ_self _))).reX (by omega) (by simp [World.setCell]; omega), World.cell?_setCell_same _ _ _ hr15, ?_, ?_, fun q => (World.frozen?_setCell _ _ _ _).trans (hrf5 q), hb5.setCell (Nat.le_refl p) _, by simp [World.setCell]; omega⟩
            · rw [World.cell?_setCell_other _ _ _ _ (by simp)]; exact hr25
            · rw [World.cell?_setCell_other _ _ _ _ (by simp)]; exact hr35
    · have hk3 : k = 3 := by omega
      subst hk3
      have HBR : Hid (BRowsAt wr ao co2 (bsB f ns 3)) := by
        obtain ⟨a9, c9, e9, h9⟩ := hfm.blocks.rows
        injection e9 with e1 e2 e3
        subst e1; subst e3
        exact h9
      have HWR := Lib.hid (HW3.out.trans (hbr.mono hp0))
      have HNP := Lib.hid (normG_any A 12 ao co2 (bsB f ns 3) none 0 [] wr ((HSN.out _ HWR.out).three) (by omega) (by omega) HBR.out ⟨Nat.le_refl _, by unfold maxLen; omega, .inl rfl⟩ (fun _ h => by simp at h) (fun _ h => by simp at h) (fun v hv => by
        have := HPS.out.bd v (by rw [HNSV.out]; exact hv)
        omega) (by have := HPS.out.len; rw [HNSV.out] at this; omega) (by simp) (by rw [HBL.out]; omega) (by simp))
      have HBP := Lib.hid hbr
      have hb8 : (bsB f ns 3).length ≤ 3 := by rw [HBL.out]; omega
      clear hfm hpf HTB HTL HNS hbr
      unfold NormPost at HNP
      by_cases hall : 0 < na ∧ 0 < nb ∧ 0 < nc
      · have HP2 : Hid (∀ (e : Ending) (w' : World), (∃ gv ev, e = .returned (.tuple #[gv, ev]) ∧ Below wr.heap.size wr w' ∧ ((∃ c p k, c ≠ 0 ∧ CheckFF 12 (bsB f ns 3) [] c p k ∧ ErrR A w' ev c p k ∧ gv = zeroG) ∨ (CheckFF 12 (bsB f ns 3) [] 0 false 0 ∧ 2 < (gameL (bsB f ns 3) []).length ∧ ev = sentV A 4 ∧ gv = zeroG) ∨ (CheckFF 12 (bsB f ns 3) [] 0 false 0 ∧ (gameL (bsB f ns 3) []).length ≤ 2 ∧ ev = .nilIface ∧ GameV w' gv (exG (gameL (bsB f ns 3) [])) (outG (gameL (bsB f ns 3) [])) (inG (gameL (bsB f ns 3) [])) []))) → e = .returned (.tuple #[zeroG, sentV A 4]) ∧ Below wr.heap.size wr w') := fun e w' h => by
          have hm := HPS.out.many hall.1 hall.2.1 hall.2.2
          have hc := HPS.out.chk
          rw [HNSV.out] at hm hc
          obtain ⟨gv, ev, rfl, hb, h1 | h1 | h1⟩ := h
          · obtain ⟨c, p, k, h0, h2, _⟩ := h1
            exact absurd (checkFF_same hc h2).1 h0
          · obtain ⟨_, _, rfl, rfl⟩ := h1
            exact ⟨rfl, hb⟩
          · omega
        have HC := Lib.hid (HNP.out.mono HP2.out)
        have d1 : decide ((0 : Int) < (na : Int)) = true := decide_eq_true (by omega)
        have d2 : decide ((0 : Int) < (nb : Int)) = true := decide_eq_true (by omega)
        have d3 : decide ((0 : Int) < (nc : Int)) = true := decide_eq_true (by omega)
        have d4 : decide (0 < na) = true := decide_eq_true (by omega)
        have d5 : decide (0 < nb) = true := decide_eq_true (by omega)
        have d6 : decide (0 < nc) = true := decide_eq_true (by omega)
        have HBA := Lib.hid (fun W => bare_any 105 W)
        clear HP2 HNP
        unfold zeroG sentV at HC
        go_wp2_with fail
        refine HC.out.mono ?_
        rintro e w4 ⟨rfl, hb4⟩
        have HB4 := Lib.hid (HBP.out.trans (hb4.mono (Nat.le_trans (Nat.le_succ p) hsr)))
        have HA5 : Hid (Below w4.heap.size w4 (w4.alloc (.cells #[.bool false, .slice none 0 0, .slice none 0 0, .slice none 0 0] 32))) := (Below.refl _ _).alloc (Nat.le_refl _) _
        have HB5 := Lib.hid (HB4.out.trans (HA5.out.mono (Nat.le_trans (Nat.le_trans (Nat.le_succ p) hsr) hb4.size)))
        have HWF := Lib.hid (HW3.out.trans (HB5.out.mono hp0))
        have k0 := HN.out _ HB5.out 0 (by omega)
        have k1 := HN.out _ HB5.out 1 (by omega)
        have k2 := HN.out _ HB5.out 2 (by omega)
        rw [← HNSV.out] at k0 k1 k2
        simp only [List.getD_cons_zero, List.getD_cons_succ] at k0 k1 k2
        have HSE := Lib.hid (fun W (hW : Below w.heap.size w W) => see_yes (sentV A 4) 105 false 0 W (errAs_sent (HSN.out W hW) 4 (by decide)))
        unfold sentV faultV at HSE
        unfold faultV at HBA
        clear hb4 HC
        go_wp2_with fail
        refine (HBA.out _).mono ?_
        rintro e w5 ⟨rfl, hb5⟩
        have HW5 := Lib.hid (HWF.out.trans (hb5.mono HWF.out.size))
        clear hb5
        go_wp2_with fail
        refine (HSE.out _ HW5.out).mono ?_
        rintro e w6 ⟨rfl, hb6⟩
        go_wp2_with fail
        go_ret
        exact ⟨rfl, HW5.out.trans (hb6.mono HW5.out.size)⟩
      · have HP2 : Hid (∀ (e : Ending) (w' : World), (∃ gv ev, e = .returned (.tuple #[gv, ev]) ∧ Below wr.heap.size wr w' ∧ ((∃ c p k, c ≠ 0 ∧ CheckFF 12 (bsB f ns 3) [] c p k ∧ ErrR A w' ev c p k ∧ gv = zeroG) ∨ (CheckFF 12 (bsB f ns 3) [] 0 false 0 ∧ 2 < (gameL (bsB f ns 3) []).length ∧ ev = sentV A 4 ∧ gv = zeroG) ∨ (CheckFF 12 (bsB f ns 3) [] 0 false 0 ∧ (gameL (bsB f ns 3) []).length ≤ 2 ∧ ev = .nilIface ∧ GameV w' gv (exG (gameL (bsB f ns 3) [])) (outG (gameL (bsB f ns 3) [])) (inG (gameL (bsB f ns 3) [])) []))) → ∃ a1 c1 a2 c2 a3 c3, e = .returned (.tuple #[.agg #[.bool (exG (gameL (bsB f ns 3) [])), .slice a1 (outG (gameL (bsB f ns 3) [])).length c1, .slice a2 (inG (gameL (bsB f ns 3) [])).length c2, .slice a3 0 c3], .nilIface]) ∧ Below wr.heap.size wr w') := fun e w' h => by
          have hm := (HPS.out.few hall).1
          have hc := HPS.out.chk
          rw [HNSV.out] at hm hc
          obtain ⟨gv, ev, rfl, hb, h1 | h1 | h1⟩ := h
          · obtain ⟨c, p, k, h0, h2, _⟩ := h1
            exact absurd (checkFF_same hc h2).1 h0
          · omega
          · obtain ⟨_, _, rfl, vo, vi, a, cap, rfl, ⟨a1, c1, rfl, _⟩, ⟨a2, c2, rfl, _⟩, _⟩ := h1
            exact ⟨_, _, _, _, _, _, rfl, hb⟩
        have HC := Lib.hid (HNP.out.mono HP2.out)
        obtain ⟨_, f1, f2, f3, f4⟩ := HPS.out.few hall
        rw [HNSV.out] at f1 f2 f3 f4
        clear HP2 HNP HPS HBR
        generalize (outG (gameL (bsB f ns 3) [])).length = lo at *
        generalize (inG (gameL (bsB f ns 3) [])).length = li at *
        generalize exG (gameL (bsB f ns 3) []) = ex at *
        go_wp2_with fail
        refine HC.out.mono ?_
        rintro e w4 ⟨a1, c1, a2, c2, a3, c3, rfl, hb4⟩
        have HB4 := Lib.hid (HBP.out.trans (hb4.mono (Nat.le_trans (Nat.le_succ p) hsr)))
        have HA5 : Hid (Below w4.heap.size w4 (w4.alloc (.cells #[.bool ex, .slice a1 lo c1, .slice a2 li c2, .slice a3 0 c3] 32))) := (Below.refl _ _).alloc (Nat.le_refl _) _
        have HB5 := Lib.hid (HB4.out.trans (HA5.out.mono (Nat.le_trans (Nat.le_trans (Nat.le_succ p) hsr) hb4.size)))
        have HWF := Lib.hid (HW3.out.trans (HB5.out.mono hp0))
        have k0 := HN.out _ HB5.out 0 (by omega)
        have k1 := HN.out _ HB5.out 1 (by omega)
        have k2 := HN.out _ HB5.out 2 (by omega)
        rw [← HNSV.out] at k0 k1 k2
        simp only [List.getD_cons_zero, List.getD_cons_succ] at k0 k1 k2
        clear hb4 HC
        have hsum : ((lo : Int) + (li : Int) != (na : Int) + (nb : Int) + (nc : Int)) = false := by simp; omega
        by_cases b0 : nb = 0
        · obtain ⟨g1, g2⟩ := f2 b0
          subst b0
          subst g1
          clear f2 f3 f4 hall
          have hgo : decide ((0 : Int) < (na : Int)) = decide (0 < na) := by simp
          have q1 : IntKind.i64.wrap (lo : Int) = (lo : Int) := IntWalk.i64_in _ (by omega)
          have q2 : IntKind.i64.wrap (na : Int) = (na : Int) := IntWalk.i64_in _ (by omega)
          have q3 : IntKind.i64.wrap ((na : Int) + (nc : Int)) = (na : Int) + (nc : Int) := IntWalk.i64_in _ (by omega)
          have q4 : ((lo : Int) != (na : Int) + (nc : Int)) = false := by simp; omega
          clear hsum
          cases f with
          | true =>
            simp only [Bool.true_or] at g2
            subst g2
            cases hna : decide (0 < na) with
            | true =>
              rw [hna] at hgo
              go_wp2_with fail
              go_quiet (fail)
              go_wp2_with fail
              go_quiet (fail)
              go_wp2_with fail
              go_ret
              first | exact ⟨rfl, below_drewN HWF.out _⟩ | exact ⟨rfl, below_drewN (below_drewN HWF.out _) _⟩
            | false =>
              rw [hna] at hgo
              go_wp2_with fail
              go_quiet (fail)
              go_wp2_with fail
              go_quiet (fail)
              go_wp2_with fail
              go_ret
              first | exact ⟨rfl, below_drewN HWF.out _⟩ | exact ⟨rfl, below_drewN (below_drewN HWF.out _) _⟩
          | false =>
            simp only [Bool.false_or] at g2
            by_cases hz : na + nc = 0
            · rw [decide_eq_true hz] at g2
              obtain rfl : na = 0 := by omega
              obtain rfl : nc = 0 := by omega
              obtain rfl : lo = 0 := by omega
              clear q1 q2 q3 q4 hgo
              subst g2
              go_wp2_with fail
              go_quiet (fail)
              go_wp2_with fail
              go_quiet (fail)
              go_wp2_with fail
              go_ret
              first | exact ⟨rfl, below_drewN HWF.out _⟩ | exact ⟨rfl, below_drewN (below_drewN HWF.out _) _⟩
            · rw [decide_eq_false hz] at g2
              subst g2
              have hz2 : ((na : Int) + (nc : Int) == 0) = false := beq_eq_false_iff_ne.2 (by omega)
              cases hna : decide (0 < na) with
              | true =>
                rw [hna] at hgo
                go_wp2_with fail
                go_quiet (fail)
                go_wp2_with fail
                go_quiet (fail)
                go_wp2_with fail
                go_ret
                first | exact ⟨rfl, below_drewN HWF.out _⟩ | exact ⟨rfl, below_drewN (below_drewN HWF.out _) _⟩
              | false =>
                rw [hna] at hgo
                go_wp2_with fail
                go_quiet (fail)
                go_wp2_with fail
                go_quiet (fail)
                go_wp2_with fail
                go_ret
                first | exact ⟨rfl, below_drewN HWF.out _⟩ | exact ⟨rfl, below_drewN (below_drewN HWF.out _) _⟩
        · have e1 : ((nb : Int) == 0) = false := beq_eq_false_iff_ne.2 (by omega)
          have e2 : decide ((0 : Int) < (nb : Int)) = true := decide_eq_true (by omega)
          have e3 : decide (0 < nb) = true := decide_eq_true (by omega)
          by_cases a0 : na = 0
          · obtain ⟨g1, g2, g3⟩ := f3 b0 a0
            subst a0; subst g2; subst g3
            have q1 : IntKind.i64.wrap (lo : Int) = (lo : Int) := IntWalk.i64_in _ (by omega)
            have q2 : IntKind.i64.wrap ((lo : Int) + (li : Int)) = (lo : Int) + (li : Int) := IntWalk.i64_in _ (by omega)
            clear hsum
            clear f1 f2 f3 f4 hall b0
            cases f with
            | true =>
              obtain rfl : ex = false := g1
              go_wp2_with fail
              go_quiet (fail)
              go_wp2_with fail
              go_quiet (fail)
              go_wp2_with fail
              go_ret
              first | exact ⟨rfl, below_drewN HWF.out _⟩ | exact ⟨rfl, below_drewN (below_drewN HWF.out _) _⟩
            | false =>
              obtain rfl : ex = true := g1
              go_wp2_with fail
              go_quiet (fail)
              go_wp2_with fail
              go_quiet (fail)
              go_wp2_with fail
              go_ret
              first | exact ⟨rfl, below_drewN HWF.out _⟩ | exact ⟨rfl, below_drewN (below_drewN HWF.out _) _⟩
          · have e4 : ((na : Int) == 0) = false := beq_eq_false_iff_ne.2 (by omega)
            have e5 : decide ((0 : Int) < (na : Int)) = true := decide_eq_true (by omega)
            have e6 : decide (0 < na) = true := decide_eq_true (by omega)
            obtain rfl : nc = 0 := by omega
            obtain ⟨g1, g2, g3⟩ := f4 b0 a0
            subst g1; subst g2; subst g3
            have q2 : IntKind.i64.wrap ((lo : Int) + (li : Int)) = (lo : Int) + (li : Int) := IntWalk.i64_in _ (by omega)
            clear hsum
            clear f1 f2 f3 f4 hall b0 a0
            cases ex
            all_goals
              go_wp2_with fail
              go_quiet (fail)
              go_wp2_with fail
              go_quiet (fail)
              go_wp2_with fail
              go_ret
              first | exact ⟨rfl, below_drewN HWF.out _⟩ | exact ⟨rfl, below_drewN (below_drewN HWF.out _) _⟩
end Go.Proofs.YtbighmmjmklioabDoor
