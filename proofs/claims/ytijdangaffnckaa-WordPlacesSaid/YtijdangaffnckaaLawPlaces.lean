/- The walk of skolemlaw3.WordPlaces: it answers true. Conditions: the slice reads as bytes. -/
import Derived.Test.YtijdangaffnckaaWRow
import Derived.Test.YtijdangaffnckaaPlaces
import Derived.Test.YtijdangaffnckaaOpenG
import Derived.Deep.QuietTactic
import Derived.BigQuiet
import Derived.RegionTactic
import Derived.WalkSmall
import Derived.Deep.Draws
import Derived.Deep.DeepCutAuto
import Derived.Deep.CutBlock
import Derived.Laws.BytesArg
namespace Go.Proofs.Ytijdangaffnckaa
open Go.RowKit

set_option maxRecDepth 4000 in
set_option maxHeartbeats 4000000 in
theorem lawPlaces (a : Option Addr) (c : Nat) (xs : List Int) (w : World) (hv : RowGAt (Value.int .u8) 0 w a c xs) (hb : Bts xs) :
    Calls Try.prog 4 #[.slice a xs.length c] w fun e w' => e = .returned (.bool true) ∧ Below w.heap.size w w' := by
  have HV := Lib.hid (show RowG (Value.int .u8) 0 w (.slice a xs.length c) xs from ⟨a, c, rfl, hv⟩)
  obtain ⟨hxc, hcm, hx⟩ := hv
  have hcm2 : c ≤ 9223372036854775807 := by unfold maxLen at hcm; omega
  clear hcm
  have HX := Lib.hid hx; clear hx
  by_cases hn : 300 < xs.length
  · generalize xs.length = n at *
    go_enter Try.func4, Try.ntmps4
    go_wp2_with (go_at_call 8; refine (first3_any _).mono ?_; rintro e w1 ⟨rfl, hb1⟩)
    go_ret
    exact ⟨rfl, hb1⟩
  · have HS1 := Lib.hid (fun W (hW : Below w.heap.size w W) => (split_row (.slice a xs.length c) xs false W (HV.out.keep hW) hb (by omega)).mono (fun e w' h => show (∃ u, e = .returned u ∧ WRow w' u (wordsL false xs)) ∧ Below w.heap.size w w' from ⟨h.1, hW.trans (h.2.mono hW.size)⟩))
    have HP0 := Lib.hid (words_placed xs)
    have HB := Lib.hid hb; clear hb
    generalize wordsL false xs = ws at *
    generalize hN : xs.length = n at *
    have HN := Lib.hid hN; clear hN
    go_enter Try.func4, Try.ntmps4
    go_wp2_with (first
      | (go_at_call 8; refine (first3_any _).mono ?_; rintro e w1 ⟨rfl, hb1⟩)
      | (go_at_call 9; refine (HS1.out _ hb1).mono ?_; rintro e w2 ⟨⟨u1, rfl, a1, c1, rfl, hx1, hm1, hy1⟩, hb2⟩; have HY1 := Lib.hid hy1; have HM1 := Lib.hid hm1; clear hy1 hm1))
    have hmx : ws.length ≤ 9223372036854775807 := by have := HM1.out; unfold maxLen at this; omega
    generalize hm : ws.length = m at *
    have HM := Lib.hid hm; clear hm
    go_loopw [5, 6, 7, 8, 9, 10] (fun ev nv i _ _ _ wr => ∃ (j e : Nat), j ≤ m ∧ e ≤ n ∧ i = .int .i64 j ∧ ev = .int .i64 e ∧ nv = .int .i64 (ngc (xs.take e) : Nat) ∧ Below w2.heap.size w2 wr ∧ Hid (Pl xs e (decide (j = 0)) (ws.drop j))) (fun _ _ i _ _ _ _ => m - (intOf i).toNat)
    case atStart => exact ⟨0, 0, Nat.zero_le _, Nat.zero_le _, rfl, rfl, rfl, Below.refl _ _, HP0.out⟩
    case round =>
      obtain ⟨j, e, hj, he, rfl, rfl, rfl, hbr, HP⟩ := hrel
      by_cases hlt : j < m
      · obtain ⟨g1, e1, hc1⟩ := HY1.out.resolve_left (by omega)
        subst e1
        have hd1 := hc1.keep hbr
        have hjl : j < ws.length := by rw [HM.out]; exact hlt
        have k1 := hd1.text j hjl
        have k2 := hd1.pos j hjl
        have k3 := hd1.fst j hjl
        have hdr : ws.drop j = ws.getD j wd0 :: ws.drop (j + 1) := by rw [List.drop_eq_getElem_cons hjl]; simp [List.getD, hjl]
        obtain ⟨NX, PX⟩ := pl_cons (show Pl xs e (decide (j = 0)) (ws.getD j wd0 :: ws.drop (j + 1)) by rw [← hdr]; exact HP.out)
        have HNX := Lib.hid NX
        have HPX := Lib.hid PX
        clear NX PX hdr hjl hd1 hc1 HP
        generalize (ws.getD j wd0).1 = t at *
        generalize (ws.getD j wd0).2.1 = p at *
        generalize (ws.getD j wd0).2.2 = f at *
        go_upto_region 13 with fail
        have hle := HNX.out.le
        have hpos := HNX.out.pos
        have hfits := HNX.out.fits
        rw [HN.out] at hfits
        obtain ⟨b, off, ha, hbl, hc⟩ := HX.out.resolve_left (by omega)
        subst ha
        have hBw : Below w.heap.size w wr := hb2.trans (hbr.mono hb2.size)
        have hBB := hBw.size
        have hblr : b < wr.heap.size := Nat.lt_of_lt_of_le hbl hBB
        have hBa : Below w.heap.size w (wr.alloc (.cells #[.string (strOfNums t), .int .i64 p, .bool f] 29)) := hBw.alloc hBB _
        have hB2 : Below w2.heap.size w2 (wr.alloc (.cells #[.string (strOfNums t), .int .i64 p, .bool f] 29)) := hbr.alloc hbr.size _
        have hbx : ∀ i, i < n → (wr.alloc (.cells #[.string (strOfNums t), .int .i64 p, .bool f] 29)).cell? ⟨b, off + i, none⟩ = some (.int .u8 (xs.getD i 0)) := fun i hi => (hBa.cell (p := ⟨b, off + i, none⟩) hbl).trans (hc i hi)
        have b1 : (wr.alloc (.cells #[.string (strOfNums t), .int .i64 p, .bool f] 29)).cell? ⟨wr.heap.size, 0, none⟩ = some (.string (strOfNums t)) := by rw [World.cell?_alloc_mark]; rfl
        have b2 : (wr.alloc (.cells #[.string (strOfNums t), .int .i64 p, .bool f] 29)).cell? ⟨wr.heap.size, 1, none⟩ = some (.int .i64 p) := by rw [World.cell?_alloc_mark]; rfl
        have b3 : (wr.alloc (.cells #[.string (strOfNums t), .int .i64 p, .bool f] 29)).cell? ⟨wr.heap.size, 2, none⟩ = some (.bool f) := by rw [World.cell?_alloc_mark]; rfl
        generalize wr.alloc (.cells #[.string (strOfNums t), .int .i64 p, .bool f] 29) = wb at *
        have HCV := Lib.hid (fun q => run_convert_bytes_arg (P := Try.prog) (wb.drewN q) 22 5 Try.underlying22 Try.underlying5 b (off + p) t.length (c - p) t rfl (fun i hi => by
          rw [Nat.add_assoc]
          refine ((below_drewN (Below.refl (off + (p + i) + b + 1) wb) q).cell (p := ⟨b, off + (p + i), none⟩) (by show b < _; omega)).trans ((hbx (p + i) (by omega)).trans ?_)
          congr 2
          rw [HNX.out.text]
          simp [List.getD, hi]) 9 Try.underlying9)
        have HBX := Lib.hid hbx
        have hts := strOfNums_size t
        have hck : ¬ c = p := by omega
        clear k1 k2 k3 hbr hc hbx hBw hblr hBB
        generalize wr.heap.size = bq at *
        generalize strOfNums t = ts at *
        generalize htl : t.length = tl at *
        have HTL := Lib.hid htl
        clear htl
        have hcv := HCV.out
        have hcv0 := HCV.out 0
        have f1 : ((tl : Int) == 0) = false := by simp; omega
        have f2 : decide (p < e) = false := by simp; omega
        have f3 : decide (n < p) = false := by simp; omega
        have f4 : decide ((n : Int) - (p : Int) < (tl : Int)) = false := by simp; omega
        go_quiet (fail)
        have hkeep : ∀ (bb oo : Nat) (vv : Value), wb.cell? ⟨bb, oo, none⟩ = some vv → (wb.drewN nq).cell? ⟨bb, oo, none⟩ = some vv := fun bb oo vv h => ((below_drewN (Below.refl (bb + 1) wb) nq).cell (p := ⟨bb, oo, none⟩) (by show bb < _; omega)).trans h
        have d1 := hkeep _ _ _ b1
        have d2 := hkeep _ _ _ b2
        have d3 := hkeep _ _ _ b3
        have HBQ := Lib.hid (fun i hi => hkeep _ _ _ (HBX.out i hi))
        have hBq : Below w2.heap.size w2 (wb.drewN nq) := below_drewN hB2 nq
        clear b1 b2 b3 hkeep HBX hBa hB2 hcv hcv0 HCV f1 f2 f3 f4 hbl hck
        generalize wb.drewN nq = wq at *
        generalize hjb : decide (j = 0) = jb at *
        have hj0 : ((j : Int) == 0) = jb := by rw [← hjb]; cases h : decide (j = 0) <;> simp_all
        clear hjb
        have HF := Lib.hid HNX.out.first
        have hcl : e < p → c ≠ 0 := fun h => by omega
        clear hcl
        go_wp2_with fail
        go_loop [9, 10] (fun lv kv => ∃ (k : Nat) (lb : Bool), e ≤ k ∧ k ≤ p ∧ kv = .int .i64 k ∧ lv = .bool lb ∧ Hid (lb = (jb || nlIn xs e k))) (fun _ kv => p - (intOf kv).toNat)
        case atStart => exact ⟨e, jb, Nat.le_refl _, hle, rfl, rfl, by simp [Hid, nlIn_same]⟩
        case round =>
          obtain ⟨k, lb, hek, hkp, rfl, rfl, HLB⟩ := hrel
          by_cases hkl : k < p
          · have g2 := HBQ.out k (by omega)
            have hgap := HNX.out.gap k hek hkl
            have HNS := Lib.hid (nlIn_snoc xs e k hek (by rw [HN.out]; omega))
            generalize xs.getD k 0 = y at *
            have hyy : y = 10 ∨ y = 32 ∨ y = 9 ∨ y = 13 := by unfold gapB at hgap; simpa using hgap
            have HNS' := Lib.hid (show (lb || nlB y) = (jb || nlIn xs e (k + 1)) by rw [HLB.out, HNS.out, Bool.or_assoc])
            clear hgap HNS
            rcases hyy with rfl | rfl | rfl | rfl
            · cases lb with
              | true =>
                go_wp2_with fail
                go_round
                case rel => exact ⟨k + 1, true, by omega, by omega, by go_num, rfl, HNS'.out⟩
                case measure => go_light; simp [intOf]; omega
              | false =>
                go_wp2_with fail
                go_round
                case rel => exact ⟨k + 1, true, by omega, by omega, by go_num, rfl, HNS'.out⟩
                case measure => go_light; simp [intOf]; omega
            · cases lb with
              | true =>
                go_wp2_with fail
                go_round
                case rel => exact ⟨k + 1, true, by omega, by omega, by go_num, rfl, HNS'.out⟩
                case measure => go_light; simp [intOf]; omega
              | false =>
                go_wp2_with fail
                go_round
                case rel => exact ⟨k + 1, false, by omega, by omega, by go_num, rfl, HNS'.out⟩
                case measure => go_light; simp [intOf]; omega
            · cases lb with
              | true =>
                go_wp2_with fail
                go_round
                case rel => exact ⟨k + 1, true, by omega, by omega, by go_num, rfl, HNS'.out⟩
                case measure => go_light; simp [intOf]; omega
              | false =>
                go_wp2_with fail
                go_round
                case rel => exact ⟨k + 1, false, by omega, by omega, by go_num, rfl, HNS'.out⟩
                case measure => go_light; simp [intOf]; omega
            · cases lb with
              | true =>
                go_wp2_with fail
                go_round
                case rel => exact ⟨k + 1, true, by omega, by omega, by go_num, rfl, HNS'.out⟩
                case measure => go_light; simp [intOf]; omega
              | false =>
                go_wp2_with fail
                go_round
                case rel => exact ⟨k + 1, false, by omega, by omega, by go_num, rfl, HNS'.out⟩
                case measure => go_light; simp [intOf]; omega
          · have hkp' : k = p := by omega
            have hlf : lb = f := by rw [HLB.out, hkp', HF.out]
            clear hkl hkp hek HLB
            subst hlf
            subst hkp'
            have HC := Lib.hid (show ngc (xs.take (k + tl)) = ngc (xs.take e) + tl by have := HNX.out.cnt; rw [HTL.out] at this; exact this)
            have hng : ngc (xs.take e) ≤ 300 := Nat.le_trans (ngc_le _) (by simp; omega)
            go_wp2_with fail
            go_roundw
            case rel => exact ⟨j + 1, k + tl, by omega, by omega, by go_num, by go_num, by rw [HC.out]; go_num, hBq, by
              show Pl xs (k + tl) (decide (j + 1 = 0)) (ws.drop (j + 1))
              rw [decide_eq_false (by omega)]
              exact HPX.out⟩
            case measure => go_light; simp [intOf]; omega
      · have hjm : j = m := by omega
        have HE := Lib.hid (show ngc (xs.take e) = ngc xs from (pl_nil (by
          have := HP.out
          rwa [List.drop_eq_nil_of_le (by rw [HM.out]; omega)] at this)).2)
        have hng : ngc xs ≤ 300 := Nat.le_trans (ngc_le _) (by rw [HN.out]; omega)
        have hBw : Below w.heap.size w wr := hb2.trans (hbr.mono hb2.size)
        rw [HE.out]
        clear hlt hj HP hbr HE he
        subst hjm
        go_wp2_with fail
        go_loop [6, 11] (fun nv kv => ∃ k : Nat, k ≤ n ∧ kv = .int .i64 k ∧ nv = .int .i64 ((ngc xs : Int) - (ngc (xs.take k) : Nat))) (fun _ kv => n - (intOf kv).toNat)
        case atStart => exact ⟨0, Nat.zero_le _, rfl, by simp [ngc]⟩
        case round =>
          obtain ⟨k, hk, rfl, rfl⟩ := hrel
          have hnk : ngc (xs.take k) ≤ 300 := Nat.le_trans (ngc_le _) (by simp; omega)
          by_cases hkn : k < n
          · obtain ⟨b, off, ha, hbl, hc⟩ := HX.out.resolve_left (by omega)
            subst ha
            have g2 : wr.cell? ⟨b, off + k, none⟩ = some (.int .u8 (xs.getD k 0)) := (hBw.cell (p := ⟨b, off + k, none⟩) hbl).trans (hc k hkn)
            have HNS := Lib.hid (ngc_snoc xs k (by rw [HN.out]; exact hkn))
            clear hc
            generalize xs.getD k 0 = y at *
            by_cases hg : y = 10 ∨ y = 32 ∨ y = 9 ∨ y = 13
            · rcases hg with rfl | rfl | rfl | rfl
              · go_wp2_with fail
                go_round
                case rel => exact ⟨k + 1, by omega, by go_num, by rw [HNS.out]; first | rfl | (congr 1; omega)⟩
                case measure => go_light; simp [intOf]; omega
              · go_wp2_with fail
                go_round
                case rel => exact ⟨k + 1, by omega, by go_num, by rw [HNS.out]; first | rfl | (congr 1; omega)⟩
                case measure => go_light; simp [intOf]; omega
              · go_wp2_with fail
                go_round
                case rel => exact ⟨k + 1, by omega, by go_num, by rw [HNS.out]; first | rfl | (congr 1; omega)⟩
                case measure => go_light; simp [intOf]; omega
              · go_wp2_with fail
                go_round
                case rel => exact ⟨k + 1, by omega, by go_num, by rw [HNS.out]; first | rfl | (congr 1; omega)⟩
                case measure => go_light; simp [intOf]; omega
            · have hgf : gapB y = false := by unfold gapB; simp; omega
              rw [hgf] at HNS
              have h10 : (y != 10) = true := by simp; omega
              have h32 : (y != 32) = true := by simp; omega
              have h9 : (y != 9) = true := by simp; omega
              have h13 : (y != 13) = true := by simp; omega
              clear hg hgf
              go_wp2_with fail
              go_round
              case rel => exact ⟨k + 1, by omega, by go_num, by rw [HNS.out]; simp; omega⟩
              case measure => go_light; simp [intOf]; omega
          · have hkn' : k = n := by omega
            have HT := Lib.hid (show xs.take k = xs by rw [hkn', ← HN.out]; simp)
            rw [HT.out]
            clear hkn hk HT hnk
            subst hkn'
            go_wp2_with fail
            go_ret
            exact ⟨ret_bool (by simp), hBw⟩
end Go.Proofs.Ytijdangaffnckaa
