/- The walk of skolemlaw2.AssignPlays: it answers true. Conditions: the arguments read as 64-bit ints, each clause is no longer than memory reaches. -/
import Derived.Test.YtbofgnihockpmaaAsgRMore
import Derived.Test.YtbofgnihockpmaaCount
import Derived.Test.YtbofgnihockpmaaNear
import Derived.Test.YtbofgnihockpmaaDos
import Derived.Test.YtbofgnihockpmaaOpenRows
import Derived.Test.YtbofgnihockpmaaAsgFirst
import Derived.Deep.RegionHeld3
import Derived.Deep.Light
namespace Go.Proofs.Ytbofgnihockpmaa
open Go.RowKit

theorem DosAt.keep {w w' : World} {a : Option Addr} {c : Nat} {ds : List (Int × Int)} (h : DosAt w a c ds) (hb : Below w.heap.size w w') : DosAt w' a c ds := by
  obtain ⟨h1, h2, h3⟩ := h
  refine ⟨h1, h2, ?_⟩
  rcases h3 with h3 | ⟨b, off, e, hlt, hc⟩
  · exact .inl h3
  · exact .inr ⟨b, off, e, Nat.lt_of_lt_of_le hlt hb.size, fun i hi => ⟨(hb.cell (p := ⟨b, off + i * 2, none⟩) hlt).trans (hc i hi).1, (hb.cell (p := ⟨b, off + (i * 2 + 1), none⟩) hlt).trans (hc i hi).2⟩⟩
theorem near_one (x : Int) (W : World) : Calls Try.prog 8 #[.slice (some ⟨W.heap.size, 0, none⟩) 1 1] (W.alloc (.cells #[.int .i64 x] 3)) fun e w' => e = .returned (.bool (nearB x)) ∧ W.alloc (.cells #[.int .i64 x] 3) = w' := by
  have := near_any _ [x] _ (own_row (own_lit1 W 0 x (Nat.zero_le _)))
  simpa using this

set_option maxRecDepth 4000 in
set_option maxHeartbeats 4000000 in
theorem lawPlays (vars : Int) (la : Option Addr) (lc : Nat) (ds : List (Int × Int)) (ask : Int) (ca : Option Addr) (cc : Nat) (xss : List (List Int)) (w : World)
    (hv1 : -9223372036854775808 ≤ vars) (hv2 : vars ≤ 9223372036854775807) (hq1 : -9223372036854775808 ≤ ask) (hq2 : ask ≤ 9223372036854775807)
    (hd : DosAt w la lc ds) (hdb : ∀ d ∈ ds, (-9223372036854775808 ≤ d.1 ∧ d.1 ≤ 9223372036854775807) ∧ -9223372036854775808 ≤ d.2 ∧ d.2 ≤ 9223372036854775807)
    (hr : RowsAt w ca cc xss) (hlen : ∀ xs ∈ xss, xs.length ≤ 140737488355328) :
    Calls Try.prog 3 #[.int .i64 vars, .slice la ds.length lc, .int .i64 ask, .slice ca xss.length cc] w fun e w' => e = .returned (.bool true) ∧ Below w.heap.size w w' := by
  have HNE := Lib.hid (near_one ask)
  have HRR := Lib.hid hr
  have HDD := Lib.hid hd
  have HDB := Lib.hid (fun k => show (-9223372036854775808 ≤ (ds.getD k (0, 0)).1 ∧ (ds.getD k (0, 0)).1 ≤ 9223372036854775807) ∧ -9223372036854775808 ≤ (ds.getD k (0, 0)).2 ∧ (ds.getD k (0, 0)).2 ≤ 9223372036854775807 by
    by_cases hk : k < ds.length
    · have := hdb _ (List.getElem_mem hk); simpa [List.getD, hk] using this
    · simp [List.getD, show ds.length ≤ k by omega])
  clear hdb
  by_cases h1 : 60 < ds.length
  · generalize ds.length = n at *
    generalize xss.length = m at *
    clear hd hr hlen
    go_enter Try.func3, Try.ntmps3
    go_wp2_with (go_at_call 7; refine (first_any _).mono ?_; rintro e w1 ⟨rfl, hb⟩)
    go_ret
    exact ⟨rfl, hb⟩
  · by_cases h2 : 30 < xss.length
    · generalize ds.length = n at *
      generalize xss.length = m at *
      clear hd hr hlen
      go_enter Try.func3, Try.ntmps3
      go_wp2_with (go_at_call 7; refine (first_any _).mono ?_; rintro e w1 ⟨rfl, hb⟩)
      go_ret
      exact ⟨rfl, hb⟩
    · by_cases h3 : 30 < vars
      · generalize ds.length = n at *
        generalize xss.length = m at *
        clear hd hr hlen
        go_enter Try.func3, Try.ntmps3
        go_wp2_with (go_at_call 7; refine (first_any _).mono ?_; rintro e w1 ⟨rfl, hb⟩)
        go_ret
        exact ⟨rfl, hb⟩
      · have HCO := Lib.hid (fun W (hW : Below w.heap.size w W) => count_any ca cc xss W (hr.keep hW) (by omega) hlen)
        obtain ⟨hd1, hd2, hd3⟩ := hd
        obtain ⟨hr1, hr2, hr3⟩ := hr
        unfold maxLen at hd2 hr2
        have HX := Lib.hid hd3; clear hd3
        have HY := Lib.hid hr3; clear hr3
        clear hlen
        generalize hN : ds.length = n at *
        generalize hM : xss.length = m at *
        have HN := Lib.hid hN; clear hN
        have HM := Lib.hid hM; clear hM
        generalize sumTo xss m = S at *
        cases h4 : nearB ask with
        | false =>
          rw [h4] at HNE
          go_enter Try.func3, Try.ntmps3
          go_wp2_with (first
            | (go_at_call 7; refine (first_any _).mono ?_; rintro e w1 ⟨rfl, hb⟩)
            | (go_at_call 8; refine (HNE.out _).mono ?_; rintro e w' ⟨rfl, rfl⟩))
          go_ret
          exact ⟨rfl, hb.alloc hb.size _⟩
        | true =>
          have HA := Lib.hid h4
          rw [h4] at HNE
          clear h4
          by_cases h5 : 200 < S
          · go_enter Try.func3, Try.ntmps3
            go_wp2_with (first
              | (go_at_call 7; refine (first_any _).mono ?_; rintro e w1 ⟨rfl, hb⟩)
              | (go_at_call 8; refine (HNE.out _).mono ?_; rintro e w' ⟨rfl, rfl⟩)
              | (go_at_call 9; refine (HCO.out _ (hb.alloc hb.size _)).mono ?_; rintro e w' ⟨rfl, rfl⟩))
            go_ret
            exact ⟨rfl, hb.alloc hb.size _⟩
          · go_enter Try.func3, Try.ntmps3
            go_wp2_with (first
              | (go_at_call 7; refine (first_any _).mono ?_; rintro e w1 ⟨rfl, hb⟩)
              | (go_at_call 8; refine (HNE.out _).mono ?_; rintro e w' ⟨rfl, rfl⟩)
              | (go_at_call 9; refine (HCO.out _ (hb.alloc hb.size _)).mono ?_; rintro e w' ⟨rfl, rfl⟩)
              | (go_at_call 10; refine (new_any vars _ hv1 hv2).mono ?_; rintro e w2 ⟨p, q, rfl, hA, hb2⟩)
              | (go_at_call 11; refine (refNew_any vars _ hv1 hv2).mono ?_; rintro e w3 ⟨p', q', rfl, hX, hb3⟩))
            have hba : Below w.heap.size w (w1.alloc (.cells #[.int .i64 ask] 3)) := hb.alloc hb.size _
            have hbw2 : Below w.heap.size w w2 := hba.trans (hb2.mono hba.size)
            have hbw3 : Below w.heap.size w w3 := hbw2.trans (hb3.mono hbw2.size)
            have hne1 : p ≠ p' := by have := hA.sp; have := hX.bp; omega
            have hne2 : p ≠ q' := by have := hA.sp; have := hX.bq; omega
            have hne3 : q ≠ p' := by have := hA.sq; have := hX.bp; omega
            have hne4 : q ≠ q' := by have := hA.sq; have := hX.bq; omega
            have hA3 := (hA.keep hb3).base hba.size
            have hX3 := hX.base hbw2.size
            clear hA hX hb hb2 hb3 hba hbw2 HNE HCO
            go_loop [12] (fun i => ∃ k : Nat, k ≤ m ∧ i = .int .i64 k ∧ Hid (∀ j, j < k → (xss.getD j []).all (rightFor (max vars 0)) = true)) (fun i => m - (intOf i).toNat)
            case atStart => exact ⟨0, Nat.zero_le _, rfl, fun j hj => absurd hj (Nat.not_lt_zero _)⟩
            case round =>
              obtain ⟨k, hk, rfl, HQ⟩ := hrel
              by_cases hlt : k < m
              · obtain ⟨b, off, ha, hb, hc⟩ := HY.out.resolve_left (by omega)
                subst ha
                obtain ⟨v, g1, hv⟩ := hc k hlt
                clear hc
                have g2 : w3.cell? ⟨b, off + k, none⟩ = some v := (hbw3.cell (p := ⟨b, off + k, none⟩) hb).trans g1
                have HRI := Lib.hid (right_any v _ (max vars 0) w3 (hv.keep (hbw3.mono (Nat.le_refl _))) (by omega) (by omega))
                have HQ' := Lib.hid (show (xss.getD k []).all (rightFor (max vars 0)) = true → ∀ j, j < k + 1 → (xss.getD j []).all (rightFor (max vars 0)) = true from fun h j hj => by
                  by_cases e : j = k
                  · subst e; exact h
                  · exact HQ.out j (by omega))
                generalize xss.getD k [] = ys at *
                obtain ⟨av, cv, rfl, _⟩ := hv
                clear g1
                cases hy : ys.all (rightFor (max vars 0)) with
                | false =>
                  rw [hy] at HRI
                  clear hy HQ'
                  rcases (show (vars < 0 ∧ max vars 0 = 0) ∨ (0 ≤ vars ∧ max vars 0 = vars) by omega) with ⟨hv0, hmx⟩ | ⟨hv0, hmx⟩
                  all_goals
                    rw [hmx] at HRI
                    clear hmx
                    go_wp2_with (go_at_call 12; refine HRI.out.mono ?_; rintro e w' ⟨rfl, rfl⟩)
                    go_ret
                    exact ⟨rfl, hbw3⟩
                | true =>
                  have HQ2 := Lib.hid (HQ'.out hy)
                  rw [hy] at HRI
                  clear hy HQ'
                  rcases (show (vars < 0 ∧ max vars 0 = 0) ∨ (0 ≤ vars ∧ max vars 0 = vars) by omega) with ⟨hv0, hmx⟩ | ⟨hv0, hmx⟩
                  all_goals
                    rw [hmx] at HRI
                    clear hmx
                    go_wp2_with (go_at_call 12; refine HRI.out.mono ?_; rintro e w' ⟨rfl, rfl⟩)
                    go_round
                    case rel => exact ⟨k + 1, by omega, by go_num, HQ2.out⟩
                    case measure => go_light; simp [intOf]; omega
              · have hkm : k = m := by omega
                subst hkm
                have HIN := Lib.hid (show ∀ xs ∈ xss, InW xs from fun xs hxs l hl => by
                  obtain ⟨i, hi, rfl⟩ := List.getElem_of_mem hxs
                  have := HQ.out i (by rw [HM.out] at hi; exact hi)
                  rw [show xss.getD i [] = xss[i] by simp [List.getD, hi], List.all_eq_true] at this
                  have := (rightFor_iff _ _).1 (this l hl)
                  omega)
                have HNZ := Lib.hid (show ∀ xs ∈ xss, ∀ x ∈ xs, x ≠ 0 from fun xs hxs l hl => by
                  obtain ⟨i, hi, rfl⟩ := List.getElem_of_mem hxs
                  have := HQ.out i (by rw [HM.out] at hi; exact hi)
                  rw [show xss.getD i [] = xss[i] by simp [List.getD, hi], List.all_eq_true] at this
                  exact ((rightFor_iff _ _).1 (this l hl)).1)
                clear HQ hlt
                have HV0 := Lib.hid hA3.vals
                go_wp2_with fail
                go_loopw [13, 14, 15, 16, 17, 18] (fun i _ _ _ _ _ wr => ∃ (j : Nat) (V : List Int), j ≤ n ∧ i = .int .i64 j ∧ Asg wr w.heap.size (.pointer (some ⟨p, 0, none⟩)) p q V ∧ Asg wr w.heap.size (.pointer (some ⟨p', 0, none⟩)) p' q' V ∧ Below w.heap.size w wr) (fun i _ _ _ _ _ _ => n - (intOf i).toNat)
                case atStart => exact ⟨0, _, Nat.zero_le _, rfl, hA3, hX3, hbw3⟩
                case round =>
                  obtain ⟨j, V, hj, rfl, hA, hX, hbr⟩ := hrel
                  clear hA3 hX3 hbw3
                  by_cases hlt : j < n
                  · obtain ⟨b, off, ha, hb, hx⟩ := HX.out.resolve_left (by omega)
                    subst ha
                    obtain ⟨x1, x2⟩ := hx j hlt
                    clear hx
                    have g1 : wr.cell? ⟨b, off + j * 2, none⟩ = some (.int .i64 (ds.getD j (0, 0)).1) := (hbr.cell (p := ⟨b, off + j * 2, none⟩) hb).trans x1
                    have g2 : wr.cell? ⟨b, off + j * 2 + 1, none⟩ = some (.int .i64 (ds.getD j (0, 0)).2) := (hbr.cell (p := ⟨b, off + j * 2 + 1, none⟩) hb).trans x2
                    clear x1 x2
                    obtain ⟨⟨hk1, hk2⟩, hz1, hz2⟩ := HDB.out j
                    generalize (ds.getD j (0, 0)).1 = kd at *
                    generalize (ds.getD j (0, 0)).2 = z at *
                    have HNz := Lib.hid (near_one z wr)
                    have hbl : b < wr.heap.size := Nat.lt_of_lt_of_le hb hbr.size
                    have hb4 : Below wr.heap.size wr (wr.alloc (.cells #[.int .i64 z] 3)) := (Below.refl _ _).alloc (Nat.le_refl _) _
                    have g3 : (wr.alloc (.cells #[.int .i64 z] 3)).cell? ⟨b, off + j * 2, none⟩ = some (.int .i64 kd) := (hb4.cell (p := ⟨b, off + j * 2, none⟩) hbl).trans g1
                    have g4 : (wr.alloc (.cells #[.int .i64 z] 3)).cell? ⟨b, off + j * 2 + 1, none⟩ = some (.int .i64 z) := (hb4.cell (p := ⟨b, off + j * 2 + 1, none⟩) hbl).trans g2
                    cases hnz : nearB z with
                    | false =>
                      rw [hnz] at HNz
                      clear hnz
                      go_wp2_with (go_at_call 8; refine HNz.out.mono ?_; rintro e w' ⟨rfl, rfl⟩)
                      go_ret
                      exact ⟨rfl, hbr.alloc hbr.size _⟩
                    | true =>
                      have hzn := (nearB_iff z).1 hnz
                      rw [hnz] at HNz
                      clear hnz
                      have CK := Lib.hid (fun W (h : Below wr.heap.size wr W) => (h.cell (p := ⟨b, off + j * 2 + 1, none⟩) hbl).trans g2)
                      have HSa := Lib.hid (fun W (h : Below wr.heap.size wr W) => set_any (hA.keep h) z (by omega) (by omega))
                      have HSx := Lib.hid (fun W VV (h : Asg W w.heap.size (.pointer (some ⟨p', 0, none⟩)) p' q' VV) => refSet_any h z (by omega) (by omega))
                      have HUa := Lib.hid (fun W (h : Below wr.heap.size wr W) => unset_any (hA.keep h) z (by omega) (by omega))
                      have HUx := Lib.hid (fun W VV (h : Asg W w.heap.size (.pointer (some ⟨p', 0, none⟩)) p' q' VV) => refUnset_any h z (by omega) (by omega))
                      have hqb : w.heap.size ≤ q := hA.bq
                      have hqb' : w.heap.size ≤ q' := hX.bq
                      by_cases hkd : kd = 1
                      · subst hkd
                        go_wp2_with (go_at_call 8; refine HNz.out.mono ?_; rintro e w' ⟨rfl, rfl⟩)
                        go_region_held3 (fun W => W.cell? ⟨b, off + j * 2 + 1, none⟩ = some (.int .i64 z)) (first | exact CK.out _ hb4 | exact CK.out _ hb4.drew | exact gw5 | exact gw6) (first
                          | (go_at_call 13; refine (HSa.out _ hb4.drew).mono ?_; rintro e w5 ⟨rfl, hA5, hO5'⟩; have hO5 : Only q wr w5 := (Only.of_below hb4.drew).trans hO5'; have hX5 := hX.other hO5 hne3.symm hne4.symm; have gw5 : w5.cell? ⟨b, off + j * 2 + 1, none⟩ = some (.int .i64 z) := (World.cell?_of_block (a := ⟨b, off + j * 2 + 1, none⟩) (hO5.block b hbl (fun e => by injection e with e; omega))).trans g2; clear hO5')
                          | (go_at_call 14; refine (HSx.out _ _ hX5).mono ?_; rintro e w6 ⟨rfl, hX6, hO6⟩; have hA6 := hA5.other hO6 hne2 hne4; have hB6 := Lib.hid (hO6.below (hO5.below hbr hbr.size hqb) (Nat.le_trans hbr.size hO5.size) hqb'); have gw6 : w6.cell? ⟨b, off + j * 2 + 1, none⟩ = some (.int .i64 z) := (World.cell?_of_block (a := ⟨b, off + j * 2 + 1, none⟩) (hO6.block b (Nat.lt_of_lt_of_le hbl hO5.size) (fun e => by injection e with e; omega))).trans gw5))
                        all_goals
                          clear HUa HUx HSa HSx CK HNz gw6 gw5 hA5 hX5 hO5 hO6 hb4 g3 g4 g1 g2 hzn hbl
                          generalize setV V z = V' at *
                          have hbs : w.heap.size ≤ w6.heap.size := hB6.out.size
                          have hask := (nearB_iff ask).1 HA.out
                          have HRW := Lib.hid (fun W (h : Below w6.heap.size w6 W) => HRR.out.keep (hB6.out.trans (h.mono hbs)))
                          have HCA := Lib.hid (fun W (h : Below w6.heap.size w6 W) => fun u xs => clause_any (hA6.keep h) u xs)
                          have HCX := Lib.hid (fun W (h : Below w6.heap.size w6 W) => fun u xs => refClause_any (hX6.keep h) u xs)
                          have HVA := Lib.hid (fun W (h : Below w6.heap.size w6 W) => value_any (hA6.keep h) ask (by omega) hq2)
                          have HVX := Lib.hid (fun W (h : Below w6.heap.size w6 W) => refValue_any (hX6.keep h) ask (by omega) hq2)
                          have HLA := Lib.hid (fun W (h : Below w6.heap.size w6 W) => all_any (hA6.keep h) ca cc xss (HRW.out W h) HIN.out)
                          have HLX := Lib.hid (fun W (h : Below w6.heap.size w6 W) => refAll_any (hX6.keep h) ca cc xss (HRW.out W h) HIN.out HNZ.out)
                          rw [HM.out] at HLA HLX
                          have HKA := Lib.hid (fun W (h : Below w6.heap.size w6 W) => known_any (hA6.keep h))
                          have HKX := Lib.hid (fun W (h : Below w6.heap.size w6 W) => refKnown_any (hX6.keep h))
                          have HAK := Lib.hid hA6
                          have HXK := Lib.hid hX6
                          clear hA6 hX6 hA hX hbr hask
                          go_wp2_with fail
                          go_loopw [14, 15, 16, 17, 18] (fun i _ _ _ _ wr2 => ∃ c : Nat, c ≤ k ∧ i = .int .i64 c ∧ Below w6.heap.size w6 wr2) (fun i _ _ _ _ _ => k - (intOf i).toNat)
                          case atStart => exact ⟨0, Nat.zero_le _, rfl, Below.refl _ _⟩
                          case round =>
                            obtain ⟨c, hc, rfl, hb7⟩ := hrel
                            by_cases hck : c < k
                            · obtain ⟨b2, off2, ha2, hbb, hcc⟩ := HY.out.resolve_left (by omega)
                              subst ha2
                              obtain ⟨v, y1, hv⟩ := hcc c hck
                              clear hcc
                              have hbt := hB6.out.trans (hb7.mono hbs)
                              have g1 : wr.cell? ⟨b2, off2 + c, none⟩ = some v := (hbt.cell (p := ⟨b2, off2 + c, none⟩) hbb).trans y1
                              have hva := hv.keep hbt
                              have C1 := Lib.hid (HCA.out _ hb7 v _ hva (row_inW HIN.out c))
                              have C2 := Lib.hid (HCX.out _ hb7 v _ hva (row_inW HIN.out c) (row_nz HNZ.out c))
                              generalize xss.getD c [] = ys at *
                              obtain ⟨av, cv, rfl, _⟩ := hv
                              clear y1 hva hbt
                              generalize (clauseL V' ys).1 = r1 at *
                              generalize (clauseL V' ys).2 = r2 at *
                              go_wp2_with (first
                                | (go_at_call 17; refine C1.out.mono ?_; rintro e w' ⟨rfl, rfl⟩)
                                | (go_at_call 18; refine C2.out.mono ?_; rintro e w8 ⟨rfl, hw8⟩; have hb8 : Below w6.heap.size w6 w8 := hb7.trans ((below_draws hw8).mono hb7.size); clear hw8))
                              go_roundw
                              case rel => exact ⟨c + 1, by omega, by go_num, hb8⟩
                              case measure => go_light; simp [intOf]; omega
                            · go_wp2_with (first
                                | (go_at_call 19; refine (HVA.out _ hb7).mono ?_; rintro e w' ⟨rfl, rfl⟩)
                                | (go_at_call 20; refine (HVX.out _ hb7).mono ?_; rintro e w8 ⟨rfl, hw8⟩; have hb8 : Below w6.heap.size w6 w8 := hb7.trans ((below_draws hw8).mono hb7.size); clear hw8)
                                | (go_at_call 21; refine (HLA.out _ hb8).mono ?_; rintro e w' ⟨rfl, rfl⟩)
                                | (go_at_call 22; refine (HLX.out _ hb8).mono ?_; rintro e w9 ⟨rfl, hw9⟩; have hb9 : Below w6.heap.size w6 w9 := hb8.trans ((below_draws hw9).mono hb8.size); clear hw9)
                                | (go_at_call 24; refine (HKA.out _ hb9).mono ?_; rintro e w10 ⟨v10, rfl, ho10, hb10'⟩; have hb10 : Below w6.heap.size w6 w10 := hb9.trans (hb10'.mono hb9.size); have hr10 := own_row ho10; clear hb10' ho10)
                                | (go_at_call 25; refine (HKX.out _ hb10).mono ?_; rintro e w11 ⟨v11, rfl, ho11, hb11'⟩; have hb11 : Below w6.heap.size w6 w11 := hb10.trans (hb11'.mono hb10.size); have hr11 := own_row ho11; have hr10k := hr10.keep hb11'; clear hb11' ho11)
                                | (go_at_call 23; refine (sameInts_yes v10 v11 _ _ _ hr10k hr11 rfl).mono ?_; rintro e w12 ⟨rfl, hb12'⟩; have hb12 : Below w6.heap.size w6 w12 := hb11.trans (hb12'.mono hb11.size); clear hb12'))
                              go_roundw
                              case rel => exact ⟨j + 1, V', by omega, by go_num, HAK.out.keep hb12, HXK.out.keep hb12, hB6.out.trans (hb12.mono hbs)⟩
                              case measure => go_light; simp [intOf]; omega
                      · have hkdb : (kd == 1) = false := by simp [hkd]
                        clear hkd
                        go_wp2_with (first
                          | (go_at_call 8; refine HNz.out.mono ?_; rintro e w' ⟨rfl, rfl⟩)
                          | (go_at_call 15; refine (HUa.out _ hb4).mono ?_; rintro e w5 ⟨rfl, hA5, hO5'⟩; have hO5 : Only q wr w5 := (Only.of_below hb4).trans hO5'; have hX5 := hX.other hO5 hne3.symm hne4.symm; have gw5 : w5.cell? ⟨b, off + j * 2 + 1, none⟩ = some (.int .i64 z) := (World.cell?_of_block (a := ⟨b, off + j * 2 + 1, none⟩) (hO5.block b hbl (fun e => by injection e with e; omega))).trans g2; clear hO5')
                          | (go_at_call 16; refine (HUx.out _ _ hX5).mono ?_; rintro e w6 ⟨rfl, hX6, hO6⟩; have hA6 := hA5.other hO6 hne2 hne4; have hB6 := Lib.hid (hO6.below (hO5.below hbr hbr.size hqb) (Nat.le_trans hbr.size hO5.size) hqb')))
                        all_goals
                          clear HUa HUx HSa HSx CK HNz gw5 hA5 hX5 hO5 hO6 hb4 g3 g4 g1 g2 hzn hbl hkdb
                          generalize unsetV V z = V' at *
                          have hbs : w.heap.size ≤ w6.heap.size := hB6.out.size
                          have hask := (nearB_iff ask).1 HA.out
                          have HRW := Lib.hid (fun W (h : Below w6.heap.size w6 W) => HRR.out.keep (hB6.out.trans (h.mono hbs)))
                          have HCA := Lib.hid (fun W (h : Below w6.heap.size w6 W) => fun u xs => clause_any (hA6.keep h) u xs)
                          have HCX := Lib.hid (fun W (h : Below w6.heap.size w6 W) => fun u xs => refClause_any (hX6.keep h) u xs)
                          have HVA := Lib.hid (fun W (h : Below w6.heap.size w6 W) => value_any (hA6.keep h) ask (by omega) hq2)
                          have HVX := Lib.hid (fun W (h : Below w6.heap.size w6 W) => refValue_any (hX6.keep h) ask (by omega) hq2)
                          have HLA := Lib.hid (fun W (h : Below w6.heap.size w6 W) => all_any (hA6.keep h) ca cc xss (HRW.out W h) HIN.out)
                          have HLX := Lib.hid (fun W (h : Below w6.heap.size w6 W) => refAll_any (hX6.keep h) ca cc xss (HRW.out W h) HIN.out HNZ.out)
                          rw [HM.out] at HLA HLX
                          have HKA := Lib.hid (fun W (h : Below w6.heap.size w6 W) => known_any (hA6.keep h))
                          have HKX := Lib.hid (fun W (h : Below w6.heap.size w6 W) => refKnown_any (hX6.keep h))
                          have HAK := Lib.hid hA6
                          have HXK := Lib.hid hX6
                          clear hA6 hX6 hA hX hbr hask
                          go_wp2_with fail
                          go_loopw [14, 15, 16, 17, 18] (fun i _ _ _ _ wr2 => ∃ c : Nat, c ≤ k ∧ i = .int .i64 c ∧ Below w6.heap.size w6 wr2) (fun i _ _ _ _ _ => k - (intOf i).toNat)
                          case atStart => exact ⟨0, Nat.zero_le _, rfl, Below.refl _ _⟩
                          case round =>
                            obtain ⟨c, hc, rfl, hb7⟩ := hrel
                            by_cases hck : c < k
                            · obtain ⟨b2, off2, ha2, hbb, hcc⟩ := HY.out.resolve_left (by omega)
                              subst ha2
                              obtain ⟨v, y1, hv⟩ := hcc c hck
                              clear hcc
                              have hbt := hB6.out.trans (hb7.mono hbs)
                              have g1 : wr.cell? ⟨b2, off2 + c, none⟩ = some v := (hbt.cell (p := ⟨b2, off2 + c, none⟩) hbb).trans y1
                              have hva := hv.keep hbt
                              have C1 := Lib.hid (HCA.out _ hb7 v _ hva (row_inW HIN.out c))
                              have C2 := Lib.hid (HCX.out _ hb7 v _ hva (row_inW HIN.out c) (row_nz HNZ.out c))
                              generalize xss.getD c [] = ys at *
                              obtain ⟨av, cv, rfl, _⟩ := hv
                              clear y1 hva hbt
                              generalize (clauseL V' ys).1 = r1 at *
                              generalize (clauseL V' ys).2 = r2 at *
                              go_wp2_with (first
                                | (go_at_call 17; refine C1.out.mono ?_; rintro e w' ⟨rfl, rfl⟩)
                                | (go_at_call 18; refine C2.out.mono ?_; rintro e w8 ⟨rfl, hw8⟩; have hb8 : Below w6.heap.size w6 w8 := hb7.trans ((below_draws hw8).mono hb7.size); clear hw8))
                              go_roundw
                              case rel => exact ⟨c + 1, by omega, by go_num, hb8⟩
                              case measure => go_light; simp [intOf]; omega
                            · go_wp2_with (first
                                | (go_at_call 19; refine (HVA.out _ hb7).mono ?_; rintro e w' ⟨rfl, rfl⟩)
                                | (go_at_call 20; refine (HVX.out _ hb7).mono ?_; rintro e w8 ⟨rfl, hw8⟩; have hb8 : Below w6.heap.size w6 w8 := hb7.trans ((below_draws hw8).mono hb7.size); clear hw8)
                                | (go_at_call 21; refine (HLA.out _ hb8).mono ?_; rintro e w' ⟨rfl, rfl⟩)
                                | (go_at_call 22; refine (HLX.out _ hb8).mono ?_; rintro e w9 ⟨rfl, hw9⟩; have hb9 : Below w6.heap.size w6 w9 := hb8.trans ((below_draws hw9).mono hb8.size); clear hw9)
                                | (go_at_call 24; refine (HKA.out _ hb9).mono ?_; rintro e w10 ⟨v10, rfl, ho10, hb10'⟩; have hb10 : Below w6.heap.size w6 w10 := hb9.trans (hb10'.mono hb9.size); have hr10 := own_row ho10; clear hb10' ho10)
                                | (go_at_call 25; refine (HKX.out _ hb10).mono ?_; rintro e w11 ⟨v11, rfl, ho11, hb11'⟩; have hb11 : Below w6.heap.size w6 w11 := hb10.trans (hb11'.mono hb10.size); have hr11 := own_row ho11; have hr10k := hr10.keep hb11'; clear hb11' ho11)
                                | (go_at_call 23; refine (sameInts_yes v10 v11 _ _ _ hr10k hr11 rfl).mono ?_; rintro e w12 ⟨rfl, hb12'⟩; have hb12 : Below w6.heap.size w6 w12 := hb11.trans (hb12'.mono hb11.size); clear hb12'))
                              go_roundw
                              case rel => exact ⟨j + 1, V', by omega, by go_num, HAK.out.keep hb12, HXK.out.keep hb12, hB6.out.trans (hb12.mono hbs)⟩
                              case measure => go_light; simp [intOf]; omega
                  · have hjn : j = n := by omega
                    rename World => wm
                    have HMO := Lib.hid (model_any hA)
                    have hXm := Lib.hid hX
                    have hml : (modelL V).length = V.length := by simp [modelL]
                    have HGE := Lib.hid (fun i => modelL_get V i)
                    have hvl := hX.vals.len
                    clear hA hX hlt
                    go_wp2_with (go_at_call 26; refine HMO.out.mono ?_; rintro e w6 ⟨rfl, hBC, hb6⟩; have hX6 := hXm.out.keep hb6; have gh := hX6.head)
                    have hB6 := Lib.hid (hbr.trans (hb6.mono hbr.size))
                    have hsq := hX6.sq
                    have hsp := hX6.sp
                    have HBC := Lib.hid (hBC.row (by omega))
                    rw [hml] at HBC
                    have HB1 := Lib.hid hBC.cells
                    rw [hml] at HB1
                    have hbsq := hBC.sq
                    have HX1 := Lib.hid hX6.cells
                    clear hBC hX6 hb6 hml
                    generalize hnv : V.length = nv at *
                    have HNV := Lib.hid hnv; clear hnv
                    go_loopw [20] (fun i wr => ∃ c : Nat, c ≤ nv ∧ i = .int .i64 c ∧ Below w6.heap.size w6 wr) (fun i _ => nv - (intOf i).toNat)
                    case atStart => exact ⟨0, Nat.zero_le _, rfl, Below.refl _ _⟩
                    case round =>
                      obtain ⟨c, hc, rfl, hb7⟩ := hrel
                      by_cases hck : c < nv
                      · have g1 : wr.cell? ⟨wm.heap.size, c, none⟩ = some (.bool (V.getD c 0 == 1)) := by
                          rw [← HGE.out]; exact (hb7.cell (p := ⟨wm.heap.size, c, none⟩) hbsq).trans (HB1.out c hck)
                        have g2 : wr.cell? ⟨q', c, none⟩ = some (.int .i64 (V.getD c 0)) := (hb7.cell (p := ⟨q', c, none⟩) hsq).trans (HX1.out c hck)
                        have g3 : wr.cell? ⟨p', 0, none⟩ = some (.slice (some ⟨q', 0, none⟩) nv nv) := (hb7.cell (p := ⟨p', 0, none⟩) hsp).trans gh
                        generalize V.getD c 0 = x at *
                        by_cases hx : x = 1
                        · subst hx
                          have e1 : ((1 : Int) == 1) = true := rfl
                          rw [e1] at g1
                          go_wp2_with fail
                          go_quiet (fail)
                          go_wp2_with fail
                          go_roundw
                          case rel => exact ⟨c + 1, by omega, by go_num, below_drewN hb7 _⟩
                          case measure => go_light; simp [intOf]; omega
                        · have hxb : (x == 1) = false := by simp [hx]
                          rw [hxb] at g1
                          go_wp2_with fail
                          go_quiet (fail)
                          go_wp2_with fail
                          go_roundw
                          case rel => exact ⟨c + 1, by omega, by go_num, below_drewN hb7 _⟩
                          case measure => go_light; simp [intOf]; omega
                      · have hB7 := hB6.out.trans (hb7.mono hB6.out.size)
                        have HO1 := Lib.hid (of_any ca cc xss _ _ wr (HRR.out.keep hB7) (HBC.out.keep hb7) HIN.out)
                        have HO2 := Lib.hid (refOf_any ca cc xss _ _ wr (HRR.out.keep hB7) (HBC.out.keep hb7) HIN.out)
                        rw [HM.out] at HO1 HO2
                        go_wp2_with (first
                          | (go_at_call 27; refine HO1.out.mono ?_; rintro e w' ⟨rfl, rfl⟩)
                          | (go_at_call 28; refine HO2.out.mono ?_; rintro e w' ⟨rfl, rfl⟩))
                        go_ret
                        exact ⟨rfl, hB7⟩
end Go.Proofs.Ytbofgnihockpmaa
