/- The contract of the document's Pop. Conditions: the heap lies in memory as 'RpS' says; the tie is a 64-bit int. -/
import Derived.Test.YteiidcogjmekhaaHrM
namespace Go.Proofs.Yteiidcogjmekhaa
open Go.RowKit

theorem bestK_skip {ss : List Int} {ins : List Bool} {k : Nat} (h : ins.getD k false = false ∨ ss.getD k 0 < (bestK ss ins k).1) : bestK ss ins (k + 1) = bestK ss ins k := by
  show (if _ then _ else _) = _
  rw [if_pos h]
theorem bestK_new {ss : List Int} {ins : List Bool} {k : Nat} (h1 : ins.getD k false = true) (h2 : (bestK ss ins k).1 < ss.getD k 0) : bestK ss ins (k + 1) = (ss.getD k 0, [(k : Int)]) := by
  show (if _ then _ else if _ then _ else _) = _
  rw [if_neg (show ¬ (ins.getD k false = false ∨ ss.getD k 0 < (bestK ss ins k).1) from fun hc => hc.elim (fun e => by rw [h1] at e; cases e) (fun e => by omega)), if_pos h2]
theorem bestK_more {ss : List Int} {ins : List Bool} {k : Nat} (h1 : ins.getD k false = true) (h2 : (bestK ss ins k).1 = ss.getD k 0) : bestK ss ins (k + 1) = ((bestK ss ins k).1, (bestK ss ins k).2 ++ [(k : Int)]) := by
  show (if _ then _ else if _ then _ else _) = _
  rw [if_neg (show ¬ (ins.getD k false = false ∨ ss.getD k 0 < (bestK ss ins k).1) from fun hc => hc.elim (fun e => by rw [h1] at e; cases e) (fun e => by omega)), if_neg (show ¬ (bestK ss ins k).1 < ss.getD k 0 by omega), h2]

set_option maxRecDepth 8000 in
set_option maxHeartbeats 4000000 in
theorem rpop_any {v : Value} {S : List Nat} {h : Hp} (w : World) (hs : RpS w v S h) (tie : Int) (_h1 : -9223372036854775808 ≤ tie) (_h2 : tie ≤ 9223372036854775807) :
    Calls Try.prog 12 #[v, .int .i64 tie] w (RPost w v S (popH h tie) (.tuple #[.int .i64 (popV h tie), .bool (popB h)])) := by
  have HS := Lib.hid hs
  obtain ⟨p, a, b, ca, cb, rfl, rfl, ha, hw⟩ := hs
  have HA := Lib.hid ha
  have HWF := Lib.hid hw
  have hn := hw.top
  have hpos := hw.pos
  have HB1 : Hid (bestK h.ss h.ins 1 = (-1, [])) := best_none (fun v hv => by rw [show v = 0 by omega]; exact hw.i0)
  have HL := Lib.hid hw.len
  have HBD := Lib.hid hw.bd
  have HBN : Hid (bestL h = (bestK h.ss h.ins h.ss.length).2) := rfl
  generalize hN : h.ss.length = n at *
  have HN := Lib.hid hN
  clear ha hw hN
  go_enter Try.func12, Try.ntmps12
  go_wp2_with fail
  go_loopw [6, 7, 8] (fun bv lv i wr => ∃ (k : Nat) (B : Int) (l : List Int), 1 ≤ k ∧ k ≤ n ∧ i = .int .i64 (k : Int) ∧ bv = .int .i64 B ∧ Hid (bestK h.ss h.ins k = (B, l)) ∧ wr.ownsRow w.heap.size 3 1 lv l.length (l.map (Value.int .i64)) ∧ l.length ≤ k ∧ Below w.heap.size w wr) (fun _ _ i _ => n - (intOf i).toNat)
  case atStart => exact ⟨1, -1, [], Nat.le_refl _, hpos, rfl, rfl, HB1.out, World.ownsRow_nil _ _ _ _, by simp, Below.refl _ _⟩
  case round =>
    obtain ⟨k, B, l, hk1, hk, rfl, rfl, hB, ho, hll, hb⟩ := hrel
    rename_i lv _
    clear HB1
    have HBW := Lib.hid hb
    have HO := Lib.hid ho
    have hA := HA.out.below hb
    have c0 := hA.c0
    have c1 := hA.c1
    rw [HN.out] at c0
    rw [HL.out] at c1
    have hsz : w.heap.size ≤ wr.heap.size := hb.size
    by_cases hlt : k < n
    · have x0 := hA.score (i := k) (by rw [HN.out]; exact hlt)
      have x1 := hA.isin (i := k) (by rw [HL.out]; exact hlt)
      clear hA hb ho
      have HK1 := Lib.hid (fun hc => @bestK_skip h.ss h.ins k hc)
      have HK2 := Lib.hid (fun h1 h2 => @bestK_new h.ss h.ins k h1 h2)
      have HK3 := Lib.hid (fun h1 h2 => @bestK_more h.ss h.ins k h1 h2)
      rw [hB.out] at HK1 HK2 HK3
      cases hin : h.ins.getD k false with
      | false =>
        have HE := Lib.hid (HK1.out (.inl hin))
        rw [hin] at x1
        clear hin HK1 HK2 HK3 hB
        go_wp2_with fail
        go_roundw
        case rel => exact ⟨k + 1, B, l, by omega, by omega, by go_num, rfl, HE.out, HO.out, by omega, HBW.out⟩
        case measure => go_light; simp [intOf]; omega
      | true =>
        rw [hin] at x1
        rcases Int.lt_trichotomy (h.ss.getD k 0) B with hc | hc | hc
        · have HE := Lib.hid (HK1.out (.inr hc))
          have hd : decide (h.ss.getD k 0 < B) = true := decide_eq_true hc
          clear hin HK1 HK2 HK3 hB hc
          generalize h.ss.getD k 0 = s at *
          go_wp2_with fail
          go_roundw
          case rel => exact ⟨k + 1, B, l, by omega, by omega, by go_num, rfl, HE.out, HO.out, by omega, HBW.out⟩
          case measure => go_light; simp [intOf]; omega
        · have HE := Lib.hid (HK3.out hin hc.symm)
          have hd : decide (B < B) = false := decide_eq_false (Int.lt_irrefl _)
          have hd2 : ¬ B < B := Int.lt_irrefl _
          rw [hc] at x0
          clear hin HK1 HK2 HK3 hB hc
          go_wp2_with (at_builtin; refine wpList_app1 rfl _ _ rfl wr w.heap.size _ l.length l (k : Int) HO.out hsz (by omega) rfl rfl ?_; intro v1 w1 ho1 hap1; have HO1 := Lib.hid ho1; have HB1 := Lib.hid (HBW.out.trans (hap1.below.mono (Nat.le_refl _))); clear ho1 hap1)
          go_roundw
          case rel => exact ⟨k + 1, B, l ++ [(k : Int)], by omega, by omega, by go_num, rfl, HE.out, by rw [List.length_append]; exact HO1.out, by simp; omega, HB1.out⟩
          case measure => go_light; simp [intOf]; omega
        · have HE := Lib.hid (HK2.out hin hc)
          have hd : decide (h.ss.getD k 0 < B) = false := decide_eq_false (by omega)
          have hd2 : decide (B < h.ss.getD k 0) = true := decide_eq_true hc
          clear hin HK1 HK2 HK3 hB hc
          generalize h.ss.getD k 0 = s at *
          go_wp2_with (at_builtin; refine wpList_app1 rfl _ _ rfl wr w.heap.size _ 0 [] (k : Int) (World.ownsRow_nil _ _ _ _) hsz (by omega) rfl rfl ?_; intro v1 w1 ho1 hap1; have HO1 := Lib.hid ho1; have HB1 := Lib.hid (HBW.out.trans (hap1.below.mono (Nat.le_refl _))); clear ho1 hap1)
          go_roundw
          case rel => exact ⟨k + 1, s, [(k : Int)], by omega, by omega, by go_num, rfl, HE.out, HO1.out, by simp, HB1.out⟩
          case measure => go_light; simp [intOf]; omega
    · have hkn : k = n := by omega
      have hdd : decide ((k : Int) < (n : Int)) = false := decide_eq_false (by omega)
      have hdd2 : decide (k < n) = false := decide_eq_false (by omega)
      have HBL : Hid (bestL h = l) := by unfold Hid; rw [HBN.out, ← hkn, hB.out]
      clear hkn hb ho hB
      by_cases hl0 : l = []
      · subst hl0
        have HQ : Hid (popH h tie = h) := by unfold Hid popH; rw [if_pos HBL.out]
        have HV : Hid (popV h tie = 0) := by unfold Hid popV; rw [if_pos HBL.out]
        have HB : Hid (popB h = false) := by unfold Hid popB; rw [HBL.out]; rfl
        obtain ⟨e1, _⟩ | ⟨g, cap, cur, e1, _⟩ := HO.out.2
        · subst e1
          clear hA
          go_wp2_with fail
          go_ret2
          exact ⟨by rw [HV.out, HB.out]; rfl, ⟨_, by rw [HQ.out]; exact HS.out.below HBW.out, Fresh.refl _ _⟩, Chg.of_below HBW.out⟩
        · subst e1
          clear hA
          go_wp2_with fail
          go_ret2
          exact ⟨by rw [HV.out, HB.out]; rfl, ⟨_, by rw [HQ.out]; exact HS.out.below HBW.out, Fresh.refl _ _⟩, Chg.of_below HBW.out⟩
      · have hlp : 0 < l.length := List.length_pos_iff.2 hl0
        have hne : bestL h ≠ [] := by rw [HBL.out]; exact hl0
        obtain ⟨g, cg, rfl⟩ := own_at HO.out hlp
        obtain ⟨x, hx, xk1, xk2, xk3, _⟩ := pop_at HWF.out hne tie
        have HQ : Hid (popH h tie = ⟨h.ss, h.ins.set x false⟩) := by unfold Hid popH; rw [if_neg hne, hx]; rfl
        have HB : Hid (popB h = true) := by unfold Hid popB; simp [hne]
        have HV : Hid (popV h tie = (x : Int)) := hx
        have HMR := Lib.hid (mod_rem tie (l.length : Int))
        obtain ⟨q, hq⟩ := Int.eq_ofNat_of_zero_le (Int.emod_nonneg tie (show (l.length : Int) ≠ 0 by omega))
        have hq2 := Int.emod_lt_of_pos tie (show (0 : Int) < (l.length : Int) by omega)
        have hql : q < l.length := by omega
        have hlx : l.getD q 0 = (x : Int) := by
          rw [← hx]
          unfold popV
          rw [if_neg hne, HBL.out, hq]; rfl
        have hmq : tie.tmod (l.length : Int) % (l.length : Int) = (q : Int) := by rw [← hq, ← HMR.out, Int.add_emod_right]
        have y0 : wr.cell? ⟨g, q, none⟩ = some (.int .i64 (l.getD q 0)) := own_cell HO.out (by simp [List.getD, hql])
        rw [hlx] at y0
        have t1 := Int.tmod_lt_of_pos tie (show (0 : Int) < (l.length : Int) by omega)
        have t2 : -(l.length : Int) < tie.tmod (l.length : Int) := Int.lt_tmod_of_pos tie (by omega)
        have x1 := hA.isin (i := x) (by rw [HL.out, ← HN.out]; exact xk2)
        have f1 := own_frozen hA.rb x
        have HA1 := Lib.hid (hA.setIn x false (by rw [HL.out, ← HN.out]; exact xk2))
        have HW2 := Lib.hid (HWF.out.pop tie)
        have hxn : x < n := by rw [← HN.out]; exact xk2
        have HC : Hid (Chg [p, a, b] w (wr.setCell ⟨b, x, none⟩ (.bool false))) := (Chg.of_below HBW.out).setCell (.inl (by simp)) _
        rw [xk3] at x1
        have hlb : l.length ≤ 100 := by omega
        have hql2 : (q : Int) < (l.length : Int) := by omega
        have hlz : ((l.length : Int) == 0) = false := by simp; exact hl0
        clear HMR hA hne hx hq hq2 hlx hl0 xk2 xk3 hql HO
        generalize l.length = ln at *
        go_wp2_with fail
        go_ret2
        exact ⟨by rw [HV.out, HB.out]; rfl, ⟨_, ⟨p, a, b, ca, cb, rfl, rfl, by rw [HQ.out]; exact HA1.out, HW2.out⟩, Fresh.refl _ _⟩, HC.out⟩
end Go.Proofs.Yteiidcogjmekhaa
