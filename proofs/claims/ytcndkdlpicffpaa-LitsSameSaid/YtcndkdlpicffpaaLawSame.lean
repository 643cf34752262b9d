/- The law LitsSame by its callees' contracts: whatever the input, it returns true and leaves what was there. No conditions. -/
import Derived.Test.YtcndkdlpicffpaaSame
import Derived.Test.YtcndkdlpicffpaaFirst
namespace Go.Proofs.Ytcndkdlpicffpaa
open Go.RowKit

theorem litsInW (cs : List Int) : InW (cs.map fun y => litOf y 9) := by
  intro x hx
  obtain ⟨y, _, rfl⟩ := List.mem_map.1 hx
  have := litOf_bd y 9 (by omega); omega
theorem want_iff (cs ds : List Int) : decide (normL cs = normL ds) = (cs.all (fun x => decide (x ∈ ds)) && ds.all fun x => decide (x ∈ cs)) := by
  rw [Bool.eq_iff_iff, decide_eq_true_iff, norm_iff, Bool.and_eq_true, List.all_eq_true, List.all_eq_true]
  constructor
  · intro h; exact ⟨fun x hx => by simpa using (h x).1 hx, fun x hx => by simpa using (h x).2 hx⟩
  · rintro ⟨h1, h2⟩ x; exact ⟨fun hx => by simpa using h1 x hx, fun hx => by simpa using h2 x hx⟩
theorem more_iff (cs : List Int) (y : Int) : decide (normL (cs ++ [y]) = normL cs) = decide (y ∈ cs) := by
  rw [Bool.eq_iff_iff, decide_eq_true_iff, decide_eq_true_iff, norm_iff]
  constructor
  · intro h; exact (h y).1 (by simp)
  · intro h x
    simp only [List.mem_append, List.mem_singleton]
    constructor
    · rintro (e | e)
      · exact e
      · rw [e]; exact h
    · intro e; exact .inl e

set_option maxHeartbeats 4000000 in
theorem lawSame (a : Option Addr) (c : Nat) (ps : List Int) (a' : Option Addr) (c' : Nat) (bs : List Int) (x : Int) (w : World) (hv : RowAt w a c ps) (hu : RowAt w a' c' bs)
    (has : ∀ y ∈ ps, -9223372036854775808 ≤ y ∧ y ≤ 9223372036854775807) (hbs : ∀ y ∈ bs, -9223372036854775808 ≤ y ∧ y ≤ 9223372036854775807) (hx1 : -9223372036854775808 ≤ x) (hx2 : x ≤ 9223372036854775807) :
    Calls Try.prog 5 #[.slice a ps.length c, .slice a' bs.length c', .int .i64 x] w fun e w' => e = .returned (.bool true) ∧ Below w.heap.size w w' := by
  have HF := Lib.hid first_any
  obtain ⟨hvc, hcm, hv⟩ := hv
  obtain ⟨huc, hcm', hu⟩ := hu
  unfold maxLen at hcm hcm'
  have HA := Lib.hid hv; clear hv
  have HB := Lib.hid hu; clear hu
  have HAS := Lib.hid has; clear has
  have HBS := Lib.hid hbs; clear hbs
  generalize hN : ps.length = n at *
  have HN := Lib.hid hN; clear hN
  generalize hM : bs.length = m at *
  have HM := Lib.hid hM; clear hM
  by_cases hlen : 20 < n
  · go_enter Try.func5, Try.ntmps5
    go_wp2_with (go_at_call 6; refine (HF.out _).mono ?_; rintro e w' ⟨rfl, hb⟩)
    go_ret
    exact ⟨rfl, hb⟩
  by_cases hlen2 : 20 < m
  · have hd1 : decide (20 < (n : Int)) = false := by simp; omega
    go_enter Try.func5, Try.ntmps5
    go_wp2_with (go_at_call 6; refine (HF.out _).mono ?_; rintro e w' ⟨rfl, hb⟩)
    go_ret
    exact ⟨rfl, hb⟩
  have hd1 : decide (20 < (n : Int)) = false := by simp; omega
  have hd2 : decide (20 < (m : Int)) = false := by simp; omega
  go_enter Try.func5, Try.ntmps5
  go_wp2_with (go_at_call 6; refine (HF.out _).mono ?_; rintro e w1 ⟨rfl, hb1⟩)
  go_loopw [8, 10] (fun l i wr => ∃ k : Nat, k ≤ n ∧ i = .int .i64 k ∧ wr.ownsRow w.heap.size 3 1 l k (((ps.take k).map fun y => litOf y 9).map (Value.int .i64)) ∧ Below w.heap.size w wr) (fun _ i _ => n - (intOf i).toNat)
  case atStart => exact ⟨0, Nat.zero_le _, rfl, by simpa using World.ownsRow_nil _ _ _ _, hb1⟩
  case round =>
    obtain ⟨k, hk, rfl, hown, hbr⟩ := hrel
    clear hb1
    by_cases hlt : k < n
    · obtain ⟨b, off, ha, hb, hc⟩ := HA.out.resolve_left (by omega)
      subst ha
      have g1 : wr.cell? ⟨b, off + k, none⟩ = some (.int .i64 (ps.getD k 0)) := (hbr.cell (p := ⟨b, off + k, none⟩) hb).trans (hc k hlt)
      clear hc
      have hbd : -9223372036854775808 ≤ ps.getD k 0 ∧ ps.getD k 0 ≤ 9223372036854775807 := by
        have hk' : k < ps.length := by rw [HN.out]; exact hlt
        have := HAS.out _ (List.getElem_mem hk'); simpa [List.getD, hk'] using this
      generalize hyk : ps.getD k 0 = y at *
      have HT := Lib.hid (show (ps.take (k + 1)).map (fun y => litOf y 9) = (ps.take k).map (fun y => litOf y 9) ++ [litOf y 9] by rw [take_snoc ps k (by rw [HN.out]; exact hlt), List.map_append, hyk]; rfl)
      clear hyk
      obtain ⟨hy1, hy2⟩ := hbd
      have hsz := hbr.size
      have HL := Lib.hid (fun W => lit_any y 9 W (by omega) (by omega) hy1 hy2)
      generalize litOf y 9 = z at *
      go_wp2_with (first | (go_at_call 14; refine (HL.out _).mono ?_; rintro e w' ⟨rfl, rfl⟩) | (at_builtin; refine wpList_app1 rfl _ _ rfl wr w.heap.size _ _ _ z hown (by omega) (by omega) rfl rfl ?_; intro v' w2 hown2 hb3))
      go_roundw
      case rel => exact ⟨k + 1, by omega, by go_num, by rw [HT.out]; exact hown2, hbr.trans hb3.below⟩
      case measure => simp [intOf]; omega
    · have hkn : k = n := by omega
      rw [hkn, List.take_of_length_le (by rw [HN.out]; exact Nat.le_refl _)] at hown
      clear hlt
      obtain ⟨wo, rfl⟩ : ∃ wo : World, wo = wr := ⟨_, rfl⟩
      obtain ⟨al, cl, rfl, hcl1, hcl2⟩ := own_shape hown
      unfold maxLen at hcl2
      have hbw := hbr
      have hsz := hbr.size
      have hI1 := litsInW ps
      have hll := own_len hown
      generalize ps.map (fun y => litOf y 9) = cs at *
      have HLL := Lib.hid hll; clear hll
      go_wp2_with fail
      clear hkn
      go_loopw [9, 11] (fun l i wr => ∃ k : Nat, k ≤ m ∧ i = .int .i64 k ∧ wr.ownsRow wo.heap.size 3 1 l k (((bs.take k).map fun y => litOf y 9).map (Value.int .i64)) ∧ Below wo.heap.size wo wr) (fun _ i _ => m - (intOf i).toNat)
      case atStart => exact ⟨0, Nat.zero_le _, rfl, by simpa using World.ownsRow_nil _ _ _ _, Below.refl _ _⟩
      case round =>
        obtain ⟨k, hk, rfl, hown2, hbq⟩ := hrel
        by_cases hlt : k < m
        · obtain ⟨b, off, ha, hb, hc⟩ := HB.out.resolve_left (by omega)
          subst ha
          have g1 : wr.cell? ⟨b, off + k, none⟩ = some (.int .i64 (bs.getD k 0)) := (hbq.cell (p := ⟨b, off + k, none⟩) (Nat.lt_of_lt_of_le hb hsz)).trans ((hbw.cell (p := ⟨b, off + k, none⟩) hb).trans (hc k hlt))
          clear hc
          have hbd : -9223372036854775808 ≤ bs.getD k 0 ∧ bs.getD k 0 ≤ 9223372036854775807 := by
            have hk' : k < bs.length := by rw [HM.out]; exact hlt
            have := HBS.out _ (List.getElem_mem hk'); simpa [List.getD, hk'] using this
          generalize hyk : bs.getD k 0 = y at *
          have HT := Lib.hid (show (bs.take (k + 1)).map (fun y => litOf y 9) = (bs.take k).map (fun y => litOf y 9) ++ [litOf y 9] by rw [take_snoc bs k (by rw [HM.out]; exact hlt), List.map_append, hyk]; rfl)
          clear hyk
          obtain ⟨hy1, hy2⟩ := hbd
          have hsz2 := hbq.size
          have HL := Lib.hid (fun W => lit_any y 9 W (by omega) (by omega) hy1 hy2)
          generalize litOf y 9 = z at *
          go_wp2_with (first | (go_at_call 14; refine (HL.out _).mono ?_; rintro e w' ⟨rfl, rfl⟩) | (at_builtin; refine wpList_app1 rfl _ _ rfl wr wo.heap.size _ _ _ z hown2 (by omega) (by omega) rfl rfl ?_; intro v' w2 hown3 hb3))
          go_roundw
          case rel => exact ⟨k + 1, by omega, by go_num, by rw [HT.out]; exact hown3, hbq.trans hb3.below⟩
          case measure => simp [intOf]; omega
        · have hkn : k = m := by omega
          rw [hkn, List.take_of_length_le (by rw [HM.out]; exact Nat.le_refl _)] at hown2
          clear hlt
          obtain ⟨wp, rfl⟩ : ∃ wp : World, wp = wr := ⟨_, rfl⟩
          obtain ⟨al2, cl2, rfl, hcl3, hcl4⟩ := own_shape hown2
          unfold maxLen at hcl4
          have hbw2 : Below w.heap.size w wp := hbw.trans (hbq.mono hsz)
          have hsz2 := hbw2.size
          have hI2 := litsInW bs
          have hll := own_len hown2
          generalize bs.map (fun y => litOf y 9) = ds at *
          have HLL2 := Lib.hid hll; clear hll
          have hown1 := own_keep hown hbq
          clear hown hbq hbw hbr
          have Rc : Row wp (.slice al n cl) cs := own_row hown1
          have Rd : Row wp (.slice al2 m cl2) ds := own_row hown2
          have HRc := Lib.hid Rc
          have HRd := Lib.hid Rd
          clear Rc Rd
          go_wp2_with fail
          clear hkn
          go_loop [12, 13] (fun b i => ∃ k : Nat, k ≤ n ∧ i = .int .i64 k ∧ b = .bool ((cs.take k).all fun x => decide (x ∈ ds))) (fun _ i => n - (intOf i).toNat)
          case atStart => exact ⟨0, Nat.zero_le _, rfl, by simp⟩
          case round =>
            obtain ⟨k, hk, rfl, rfl⟩ := hrel
            obtain ⟨wb, hwb⟩ : ∃ wb, wb = (cs.take k).all fun x => decide (x ∈ ds) := ⟨_, rfl⟩
            rw [← hwb]
            have HWB := Lib.hid hwb; clear hwb
            by_cases hlt : k < n
            · obtain ⟨b, off, ha, hb, hc⟩ := (rowAt_of_row HRc.out).2.2.2.resolve_left (by rw [HLL.out]; omega)
              subst ha
              have g1 : wp.cell? ⟨b, off + k, none⟩ = some (.int .i64 (cs.getD k 0)) := hc k (by rw [HLL.out]; exact hlt)
              clear hc
              have HT := Lib.hid (all_snoc (fun x => decide (x ∈ ds)) cs k (by rw [HLL.out]; exact hlt))
              generalize cs.getD k 0 = y at *
              have HH := Lib.hid (has_any _ ds y wp HRd.out)
              generalize decide (y ∈ ds) = hy at *
              cases wb with
              | true =>
                go_wp2_with (go_at_call 10; refine HH.out.mono ?_; rintro e w' ⟨rfl, rfl⟩)
                go_round
                case rel => exact ⟨k + 1, by omega, by go_num, by rw [HT.out, ← HWB.out]; simp⟩
                case measure => simp [intOf]; omega
              | false =>
                go_wp2_with fail
                go_round
                case rel => exact ⟨k + 1, by omega, by go_num, by rw [HT.out, ← HWB.out]; simp⟩
                case measure => simp [intOf]; omega
            · have hkn : k = n := by omega
              have HW1 : Hid (wb = cs.all fun x => decide (x ∈ ds)) := by
                have := HWB.out
                rwa [hkn, List.take_of_length_le (by rw [HLL.out]; exact Nat.le_refl _)] at this
              clear hlt
              go_wp2_with fail
              clear hkn
              go_loop [12, 14] (fun b i => ∃ k : Nat, k ≤ m ∧ i = .int .i64 k ∧ b = .bool (wb && (ds.take k).all fun x => decide (x ∈ cs))) (fun _ i => m - (intOf i).toNat)
              case atStart => exact ⟨0, Nat.zero_le _, rfl, by simp⟩
              case round =>
                obtain ⟨k, hk, rfl, rfl⟩ := hrel
                obtain ⟨wc, hwc⟩ : ∃ wc, wc = (wb && (ds.take k).all fun x => decide (x ∈ cs)) := ⟨_, rfl⟩
                rw [← hwc]
                have HWC := Lib.hid hwc; clear hwc
                by_cases hlt : k < m
                · obtain ⟨b, off, ha, hb, hc⟩ := (rowAt_of_row HRd.out).2.2.2.resolve_left (by rw [HLL2.out]; omega)
                  subst ha
                  have g1 : wp.cell? ⟨b, off + k, none⟩ = some (.int .i64 (ds.getD k 0)) := hc k (by rw [HLL2.out]; exact hlt)
                  clear hc
                  have HT := Lib.hid (all_snoc (fun x => decide (x ∈ cs)) ds k (by rw [HLL2.out]; exact hlt))
                  generalize ds.getD k 0 = y at *
                  have HH := Lib.hid (has_any _ cs y wp HRc.out)
                  generalize decide (y ∈ cs) = hy at *
                  cases wc with
                  | true =>
                    go_wp2_with (go_at_call 10; refine HH.out.mono ?_; rintro e w' ⟨rfl, rfl⟩)
                    go_round
                    case rel => exact ⟨k + 1, by omega, by go_num, by rw [HT.out, ← Bool.and_assoc, ← HWC.out]; simp⟩
                    case measure => simp [intOf]; omega
                  | false =>
                    go_wp2_with fail
                    go_round
                    case rel => exact ⟨k + 1, by omega, by go_num, by rw [HT.out, ← Bool.and_assoc, ← HWC.out]; simp⟩
                    case measure => simp [intOf]; omega
                · have hkn : k = m := by omega
                  have HW2 : Hid (wc = (cs.all (fun x => decide (x ∈ ds)) && ds.all fun x => decide (x ∈ cs))) := by
                    have := HWC.out
                    rwa [hkn, List.take_of_length_le (by rw [HLL2.out]; exact Nat.le_refl _), HW1.out] at this
                  clear hlt
                  have HL := Lib.hid (fun W => lit_any x 9 W (by omega) (by omega) hx1 hx2)
                  have hyb := litOf_bd x 9 (by omega)
                  generalize litOf x 9 = y at *
                  have S1 := Lib.hid (fun W (hW : Below wp.heap.size wp W) => same_any _ _ cs ds W (HRc.out.keep hW) (HRd.out.keep hW) hI1 hI2 (by rw [HLL.out]; omega) (by rw [HLL2.out]; omega))
                  have S2 := Lib.hid (fun W (hW : Below wp.heap.size wp W) => same_any _ _ ds cs W (HRd.out.keep hW) (HRc.out.keep hW) hI2 hI1 (by rw [HLL2.out]; omega) (by rw [HLL.out]; omega))
                  rw [want_iff, ← HW2.out] at S1
                  rw [want_iff, Bool.and_comm, ← HW2.out] at S2
                  have HI := Lib.hid (fun W (hW : Below wp.heap.size wp W) => ints_any _ cs W (HRc.out.keep hW) (by rw [HLL.out]; omega))
                  have hI3 : InW (cs ++ [y]) := by
                    intro z hz
                    rcases List.mem_append.1 hz with hz | hz
                    · exact hI1 z hz
                    · simp at hz; subst hz; omega
                  have S3 := Lib.hid (fun v W (hv : Row W v (cs ++ [y])) (hW : Below wp.heap.size wp W) => same_any _ _ (cs ++ [y]) cs W hv (HRc.out.keep hW) hI3 hI1 (by simp [HLL.out]; omega) (by rw [HLL.out]; omega))
                  rw [more_iff] at S3
                  have S4 := Lib.hid (fun W (hW : Below wp.heap.size wp W) => has_any _ cs y W (HRc.out.keep hW))
                  generalize decide (y ∈ cs) = hy at *
                  have hyy : (hy == hy) = true := by simp
                  have hww : (wc == wc) = true := by simp
                  go_wp2_with fail
                  refine (HL.out _).mono ?_
                  rintro e w' ⟨rfl, rfl⟩
                  go_wp2_with fail
                  refine (S1.out _ (Below.refl _ _)).mono ?_
                  rintro e w2 ⟨rfl, hb2⟩
                  go_wp2_with fail
                  refine (S2.out _ hb2).mono ?_
                  rintro e w3 ⟨rfl, hb3⟩
                  have hb3' := hb2.trans (hb3.mono hb2.size)
                  go_wp2_with fail
                  refine (HI.out _ hb3').mono ?_
                  rintro e w4 ⟨v4, rfl, hown4, hb4⟩
                  have hb4' := hb3'.trans (hb4.mono hb3'.size)
                  have hz4 := hb4.size
                  rw [HLL.out] at hown4
                  go_wp2_with (at_builtin; refine wpList_guard (by simp [Region.wanted, yielded]) ?_; refine wpList_app1 rfl _ _ rfl w4 w3.heap.size _ _ _ y hown4 (by omega) (by omega) rfl rfl ?_; intro v5 w5 hown5 hb5)
                  have hb5' := hb4'.trans (hb5.below.mono (by have := hb3'.size; omega))
                  go_wp2_with fail
                  refine (S3.out _ _ (own_row hown5) hb5').mono ?_
                  rintro e w6 ⟨rfl, hb6⟩
                  have hb6' := hb5'.trans (hb6.mono hb5'.size)
                  go_wp2_with fail
                  refine (S4.out _ hb6').mono ?_
                  rintro e w7 ⟨rfl, rfl⟩
                  go_wp2_with fail
                  go_ret
                  exact ⟨by simp, hbw2.trans (hb6'.mono hbw2.size)⟩
end Go.Proofs.Ytcndkdlpicffpaa
