/- The law LitsRename by its callees' contracts: whatever the input, it returns true and leaves what was there. Conditions: the contract of 'first'. -/
import Derived.Test.YtcndkdlpicffpaaFirst
import Derived.Deep.DeepCutAuto
namespace Go.Proofs.Ytcndkdlpicffpaa
open Go.RowKit

/-- The new name of a variable, and the tables of the law. -/
def wOf (b v : Nat) : Nat := 1 + (v + b) % 9 + 10 * (v % 2)
def toL (b k : Nat) : List Int := 0 :: (List.range k).map fun v => (wOf b (v + 1) : Int)
def backL (b : Nat) : Nat → List Int
  | 0 => List.replicate 30 0
  | k + 1 => (backL b k).set (wOf b (k + 1)) ((k + 1 : Nat) : Int)
theorem wOf_lt (b v : Nat) : wOf b v < 30 := by unfold wOf; omega
theorem backL_len (b k : Nat) : (backL b k).length = 30 := by induction k with | zero => rfl | succ k ih => simp [backL, ih]
theorem toL_len (b k : Nat) : (toL b k).length = k + 1 := by simp [toL]
theorem toL_snoc (b k : Nat) : toL b (k + 1) = toL b k ++ [(wOf b (k + 1) : Int)] := by simp [toL, List.range_succ]

def byOf (x : Int) : Nat := ((if x < 0 then -(x + 1) else x) % 9).toNat

theorem tables : ∀ b, b < 9 → ∀ v, v < 10 → 1 ≤ v → (toL b 9).getD v 0 = wOf b v ∧ (backL b 9).getD (wOf b v) 0 = v := by decide

theorem byOf_lt (x : Int) : byOf x < 9 := by unfold byOf; omega
theorem lit9 (y : Int) : ∃ v : Nat, 1 ≤ v ∧ v < 10 ∧ absI (litOf y 9) = v ∧ litOf y 9 = if litOf y 9 < 0 then -(v : Int) else v := by
  have h := litOf_bd y 9 (by omega)
  generalize litOf y 9 = z at *
  refine ⟨(absI z).toNat, ?_, ?_, ?_, ?_⟩ <;> (unfold absI; split <;> omega)
theorem ren_to (b : Nat) (hb : b < 9) (y : Int) : renOk (toL b 9) (litOf y 9) = true ∧ renOk (backL b 9) (ren1 (toL b 9) (litOf y 9)) = true ∧ ren1 (backL b 9) (ren1 (toL b 9) (litOf y 9)) = litOf y 9 := by
  obtain ⟨v, h1, h2, h3, h4⟩ := lit9 y
  generalize litOf y 9 = z at *
  obtain ⟨t1, t2⟩ := tables b hb v h2 h1
  have hw : 1 ≤ wOf b v := by unfold wOf; omega
  have hw2 := wOf_lt b v
  have hr : ren1 (toL b 9) z = if z < 0 then -(wOf b v : Int) else wOf b v := by unfold ren1; rw [h3, Int.toNat_natCast, t1]
  have ha : absI (ren1 (toL b 9) z) = wOf b v := by rw [hr]; unfold absI; split <;> split <;> omega
  refine ⟨?_, ?_, ?_⟩
  · unfold renOk
    rw [h3, Int.toNat_natCast, t1, toL_len]
    simp; omega
  · unfold renOk
    rw [ha, Int.toNat_natCast, t2, backL_len]
    simp; omega
  · unfold ren1
    rw [show (absI (if z < 0 then -(toL b 9).getD (absI z).toNat 0 else (toL b 9).getD (absI z).toNat 0)).toNat = wOf b v from by
      have := ha; unfold ren1 at this; rw [this]; rfl]
    rw [t2, h3, Int.toNat_natCast, t1]
    rw [h4]
    split <;> split <;> first | rfl | omega
theorem all_of (f : Int → Bool) (g : Int → Int) (cs : List Int) (h : ∀ y, f (g y) = true) : (cs.map g).all f = true := by simp [h]
theorem inW_to (b k : Nat) : InW (toL b k) := by
  intro x hx
  simp only [toL, List.mem_cons, List.mem_map, List.mem_range] at hx
  rcases hx with rfl | ⟨v, _, rfl⟩
  · omega
  · have := wOf_lt b (v + 1); omega
theorem inW_back (b : Nat) : ∀ k, k ≤ 9 → InW (backL b k)
  | 0, _ => by intro x hx; simp [backL] at hx; omega
  | k + 1, hk => by
    intro x hx
    rcases List.mem_or_eq_of_mem_set hx with h | h
    · exact inW_back b k (by omega) x h
    · omega
theorem inW_lits (cs : List Int) : InW (cs.map fun y => litOf y 9) := by
  intro x hx
  obtain ⟨y, _, rfl⟩ := List.mem_map.1 hx
  have := litOf_bd y 9 (by omega); omega
theorem inW_ren (b : Nat) (cs : List Int) : InW ((cs.map fun y => litOf y 9).map (ren1 (toL b 9))) := by
  intro x hx
  obtain ⟨z, hz, rfl⟩ := List.mem_map.1 hx
  obtain ⟨y, _, rfl⟩ := List.mem_map.1 hz
  have hbd := inW_to b 9
  have := hbd.get (absI (litOf y 9)).toNat
  unfold ren1; split <;> omega
theorem short_all (z : Int) : renOk [0] z = false := by
  unfold renOk
  by_cases h : 1 ≤ absI z
  · simp; intro _ h2; omega
  · simp; omega

set_option maxHeartbeats 4000000 in
theorem lawRename (hfirst : ∀ w, Calls Try.prog 6 #[] w fun e w' => e = .returned (.bool true) ∧ Below w.heap.size w w')
    (a : Option Addr) (c : Nat) (cs : List Int) (x : Int) (w : World) (hv : RowAt w a c cs) (hcs : ∀ y ∈ cs, -9223372036854775808 ≤ y ∧ y ≤ 9223372036854775807) (hx1 : -9223372036854775808 ≤ x) (hx2 : x ≤ 9223372036854775807) :
    Calls Try.prog 4 #[.slice a cs.length c, .int .i64 x] w fun e w' => e = .returned (.bool true) ∧ Below w.heap.size w w' := by
  have HF := Lib.hid hfirst; clear hfirst
  obtain ⟨hvc, hcm, hv⟩ := hv
  unfold maxLen at hcm
  have HX := Lib.hid hv; clear hv
  have HC := Lib.hid hcs; clear hcs
  generalize hN : cs.length = n at *
  have HN := Lib.hid hN; clear hN
  by_cases hlen : 30 < n
  · go_enter Try.func4, Try.ntmps4
    go_wp2_with (go_at_call 6; refine (HF.out _).mono ?_; rintro e w' ⟨rfl, hb⟩)
    go_ret
    exact ⟨rfl, hb⟩
  · go_enter Try.func4, Try.ntmps4
    go_wp2_with (go_at_call 6; refine (HF.out _).mono ?_; rintro e w1 ⟨rfl, hb1⟩)
    go_loopw [6, 7] (fun l i wr => ∃ k : Nat, k ≤ n ∧ i = .int .i64 k ∧ wr.ownsRow w.heap.size 3 1 l k (((cs.take k).map fun y => litOf y 9).map (Value.int .i64)) ∧ Below w.heap.size w wr) (fun _ i _ => n - (intOf i).toNat)
    case atStart => exact ⟨0, Nat.zero_le _, rfl, by simpa using World.ownsRow_nil _ _ _ _, hb1⟩
    case round =>
      obtain ⟨k, hk, rfl, hown, hbr⟩ := hrel
      clear hb1
      by_cases hlt : k < n
      · obtain ⟨b, off, ha, hb, hc⟩ := HX.out.resolve_left (by omega)
        subst ha
        have g1 : wr.cell? ⟨b, off + k, none⟩ = some (.int .i64 (cs.getD k 0)) := (hbr.cell (p := ⟨b, off + k, none⟩) hb).trans (hc k hlt)
        clear hc
        have hbd : -9223372036854775808 ≤ cs.getD k 0 ∧ cs.getD k 0 ≤ 9223372036854775807 := by
          have hk' : k < cs.length := by rw [HN.out]; exact hlt
          have := HC.out _ (List.getElem_mem hk'); simpa [List.getD, hk'] using this
        generalize hyk : cs.getD k 0 = y at *
        have HT := Lib.hid (show (cs.take (k + 1)).map (fun y => litOf y 9) = (cs.take k).map (fun y => litOf y 9) ++ [litOf y 9] by rw [take_snoc cs k (by rw [HN.out]; exact hlt), List.map_append, hyk]; rfl)
        clear hyk
        obtain ⟨hy1, hy2⟩ := hbd
        have hsz := hbr.size
        have HL := Lib.hid (fun W => lit_any y 9 W (by omega) (by omega) hy1 hy2)
        generalize litOf y 9 = z at *
        go_wp2_with (first | (go_at_call 14; refine (HL.out _).mono ?_; rintro e w' ⟨rfl, rfl⟩) | (at_builtin; refine wpList_app1 rfl _ _ rfl wr w.heap.size _ _ _ z hown (by omega) (by omega) rfl rfl ?_; intro v' w2 hown2 hb3))
        go_roundw
        case rel => exact ⟨k + 1, by omega, by go_num, by rw [HT.out]; exact hown2, hbr.trans hb3.below⟩
        case measure => simp [intOf]; omega
      · have hkn : k = n := by omega
        rw [hkn] at hown
        clear hlt
        obtain ⟨wo, rfl⟩ : ∃ wo : World, wo = wr := ⟨_, rfl⟩
        obtain ⟨al, cl, rfl, hcl1, hcl2⟩ := own_shape hown
        have hbw := hbr
        unfold maxLen at hcl2
        have hsz := hbr.size
        generalize hls : cs.map (fun y => litOf y 9) = ls at *
        have hls' : (cs.take n).map (fun y => litOf y 9) = ls := by rw [List.take_of_length_le (by rw [HN.out]; exact Nat.le_refl _)]; exact hls
        rw [hls'] at hown
        have HLS := Lib.hid hls; clear hls hls'
        have hll := own_len hown
        have HLL := Lib.hid hll; clear hll
        obtain ⟨b, hbd⟩ : ∃ b, b = byOf x := ⟨_, rfl⟩
        have hb9 : b < 9 := by rw [hbd]; exact byOf_lt x
        have hsg : (x < 0 → (-(x + 1)) % 9 = (b : Int)) ∧ (¬ x < 0 → x % 9 = (b : Int)) := by
          constructor <;> intro h <;> rw [hbd] <;> unfold byOf <;> simp only [h, if_true, if_false] <;> omega
        obtain ⟨hsg1, hsg2⟩ := hsg
        have S1 := Lib.hid hsg1
        have S2 := Lib.hid hsg2
        clear hsg1 hsg2 hbd
        by_cases hxn : x < 0
        all_goals
          first | have hs : -(x + 1).tmod 9 = (b : Int) := (by rw [← Int.neg_tmod, Int.tmod_eq_emod_of_nonneg (by omega)]; exact S1.out hxn) | have hs : x % 9 = (b : Int) := S2.out hxn
          go_wp2_with (at_make; refine wpList_makeN rfl _ _ rfl _ 30 rfl rfl (by omega) ?_; intro w2 hback hb2 hs2)
          have hto := own_keep (own_lit1 wo wo.heap.size 0 (Nat.le_refl _)) hb2
          have hbr2 : Below wo.heap.size wo w2 := ((Below.refl _ wo).alloc (Nat.le_refl _) _).trans (hb2.mono (by simp))
          clear hb2
          go_loopw [8, 10, 11] (fun t v _ wr => ∃ k : Nat, k ≤ 9 ∧ v = .int .i64 ((k : Int) + 1) ∧ wr.ownsRow wo.heap.size 3 1 t (k + 1) ((toL b k).map (Value.int .i64)) ∧ Hid (t.ownBlock ≠ some (wo.heap.size + 1)) ∧
            wr.ownsRow wo.heap.size 3 1 (.slice (some ⟨wo.heap.size + 1, 0, none⟩) 30 30) 30 ((backL b k).map (Value.int .i64)) ∧ Below wo.heap.size wo wr ∧ wo.heap.size + 1 < wr.heap.size) (fun _ v _ _ => (10 - intOf v).toNat)
          case atStart => exact ⟨0, by omega, rfl, hto, by simp [Hid, Value.ownBlock], own_base (by simpa [backL] using hback) (by simp), hbr2, by simpa using hs2⟩
          case round =>
            obtain ⟨k, hk9, rfl, hown2, HNE, hbk, hbq, hsq⟩ := hrel
            clear hback hbr2 hs2 hto
            have hszq := hbq.size
            by_cases hlt9 : k < 9
            · have hw : (1 : Int) + ((k : Int) + 1 + (b : Int)) % 9 + 10 * (((k : Int) + 1) % 2) = ((wOf b (k + 1) : Nat) : Int) := by unfold wOf; omega
              have hwl := wOf_lt b (k + 1)
              generalize hwm : wOf b (k + 1) = m at *
              have HWM := Lib.hid hwm; clear hwm
              have HCM := Lib.hid (fun (W : World) (h : W.ownsRow wo.heap.size 3 1 (.slice (some ⟨wo.heap.size + 1, 0, none⟩) 30 30) 30 ((backL b k).map (Value.int .i64))) => (show W.cell? ⟨wo.heap.size + 1, m, none⟩ = some (.int .i64 ((backL b k).getD m 0)) by
                have := h.cellAt m (by omega)
                rw [this]; simp [List.getD, backL_len, hwl]))
              have HTO := Lib.hid (show toL b (k + 1) = toL b k ++ [(m : Int)] by rw [toL_snoc, HWM.out])
              have HBK := Lib.hid (show backL b (k + 1) = (backL b k).set m ((k : Int) + 1) by rw [show backL b (k + 1) = (backL b k).set (wOf b (k + 1)) ((k + 1 : Nat) : Int) from rfl, HWM.out]; simp)
              go_wp2_with (at_builtin; refine wpList_app1 rfl _ _ rfl wr wo.heap.size _ _ _ (m : Int) hown2 (by omega) (by omega) rfl rfl ?_; intro v' w3 hown3 hb3; have hbk3 := hb3.own hbk (.inr (Ne.symm HNE.out)); have hcm3 := HCM.out w3 hbk3; have hfz3 := hbk3.frozenAt m)
              have hst := hbk3.stored m (.int .i64 ((k : Int) + 1))
              have hne3 := hb3.ne hsq HNE.out
              have hsz3 := hb3.below.size
              go_roundw
              case rel =>
                refine ⟨k + 1, by omega, by go_num, by rw [HTO.out]; exact hown3.kept hst.2 (.inr hne3), hne3, ?_, (hbq.trans hb3.below).setCell (by simp) _, by simp [World.setCell]; omega⟩
                rw [HBK.out, List.map_set]
                exact hst.1
              case measure => simp [intOf]; omega
            · have hk9' : k = 9 := by omega
              subst hk9'
              clear hsq hszq
              obtain ⟨gt, ct, rfl, _, hgt, hct1, hct2⟩ := own_some hown2 (by omega)
              unfold maxLen at hct2
              have Rl : Row wr (.slice al n cl) ls := (own_row hown).keep hbq
              have Rt : Row wr (.slice (some ⟨gt, 0, none⟩) (9 + 1) ct) (toL b 9) := own_row hown2
              have Rt1 : Row wr (.slice (some ⟨gt, 0, none⟩) 1 ct) [0] := own_cut hown2 1 (by omega)
              have Rb : Row wr (.slice (some ⟨wo.heap.size + 1, 0, none⟩) 30 30) (backL b 9) := own_row hbk
              have A1 := Lib.hid (show ls.all (renOk (toL b 9)) = true by rw [← HLS.out]; exact all_of _ _ cs fun y => (ren_to b hb9 y).1)
              have A2 := Lib.hid (show (ls.map (ren1 (toL b 9))).all (renOk (backL b 9)) = true by rw [← HLS.out, List.map_map]; exact all_of _ _ cs fun y => (ren_to b hb9 y).2.1)
              have A3 := Lib.hid (show (ls.map (ren1 (toL b 9))).map (ren1 (backL b 9)) = ls by rw [← HLS.out, List.map_map, List.map_map]; exact List.map_congr_left fun y _ => (ren_to b hb9 y).2.2)
              have I1 : InW ls := by rw [← HLS.out]; exact inW_lits cs
              have I2 : InW (ls.map (ren1 (toL b 9))) := by rw [← HLS.out]; exact inW_ren b cs
              have I3 : InW [0] := by intro z hz; simp at hz; omega
              have A4 := Lib.hid (show n = 0 → ls.all (renOk [0]) = true from fun h => by rw [List.eq_nil_of_length_eq_zero (HLL.out.trans h)]; rfl)
              have A5 := Lib.hid (show n ≠ 0 → ls.all (renOk [0]) = false from fun h => by
                rw [List.all_eq_false]
                have : 0 < ls.length := by rw [HLL.out]; omega
                exact ⟨ls[0], List.getElem_mem this, by simp [short_all]⟩)
              clear hown hown2 hbk
              go_wp2_with fail
              refine (rename_ok _ _ ls (toL b 9) _ Rl Rt I1 (inW_to b 9) (by rw [HLL.out]; omega) (by rw [toL_len]; omega) A1.out).mono ?_
              rintro e w4 ⟨v4, rfl, hx4, hb4⟩
              go_wp2_with fail
              refine (rename_ok _ _ _ (backL b 9) _ (own_row hx4) (Rb.keep hb4) I2 (inW_back b 9 (by omega)) (by rw [List.length_map, HLL.out]; omega) (by rw [backL_len]; omega) A2.out).mono ?_
              rintro e w5 ⟨v5, rfl, hx5, hb5⟩
              have hbA := hb4.trans (hb5.mono hb4.size)
              rcases Classical.em (n = 0) with hn0 | hn0
              · have hn0b : ((n : Int) == 0) = true := by simp [hn0]
                have HN0 := Lib.hid hn0; clear hn0
                go_wp2_with fail
                refine (rename_ok _ _ ls [0] _ (Rl.keep hbA) (Rt1.keep hbA) I1 I3 (by rw [HLL.out]; omega) (by simp) (A4.out HN0.out)).mono ?_
                rintro e w6 ⟨v6, rfl, hx6, hb6⟩
                have hbB := hbA.trans (hb6.mono hbA.size)
                go_wp2_with fail
                refine (sameInts_yes _ _ _ ls _ ((own_row hx5).keep hb6) (Rl.keep hbB) A3.out).mono ?_
                rintro e w7 ⟨rfl, hb7⟩
                have hbC := hbB.trans (hb7.mono hbB.size)
                go_wp2_with fail
                go_ret
                exact ⟨rfl, hbw.trans (hbq.trans (hbC.mono hbq.size) |>.mono hbw.size)⟩
              · have hn0b : ((n : Int) == 0) = false := by simp [hn0]
                have HN0 := Lib.hid hn0; clear hn0
                go_wp2_with fail
                refine (rename_bad _ _ ls [0] _ (Rl.keep hbA) (Rt1.keep hbA) I1 I3 (by rw [HLL.out]; omega) (by simp) (A5.out HN0.out)).mono ?_
                rintro e w6 ⟨rfl, hb6⟩
                have hbB := hbA.trans (hb6.mono hbA.size)
                go_wp2_with fail
                refine (sameInts_yes _ _ _ ls _ ((own_row hx5).keep hb6) (Rl.keep hbB) A3.out).mono ?_
                rintro e w7 ⟨rfl, hb7⟩
                have hbC := hbB.trans (hb7.mono hbB.size)
                go_wp2_with fail
                go_ret
                exact ⟨rfl, hbw.trans (hbq.trans (hbC.mono hbq.size) |>.mono hbw.size)⟩
end Go.Proofs.Ytcndkdlpicffpaa
