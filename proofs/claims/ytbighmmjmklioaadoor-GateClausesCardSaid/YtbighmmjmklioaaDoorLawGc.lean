/- The law GateClauses: true for whatever arguments. Conditions: the slice reads as 64-bit ints; the two errors lie as 'Sents2' says. -/
import Derived.Test.YtbighmmjmklioaaDoorGlF
import Derived.Test.YtbighmmjmklioaaDoorMakeQ
namespace Go.Proofs.YtbighmmjmklioaaDoor
open Go.RowKit

theorem OffC.keep {w W : World} {v : Value} {xss : List (List Int)} (h : OffC w [] v xss) (hb : Below w.heap.size w W) : OffC W [] v xss := h.later (Chg.of_below (S := []) hb) (fun i hi => by cases hi)
theorem litsIn_of {m : Int} {n : Nat} {cs : List (List Int)} (hm : m = (n : Int)) (h : ∀ c ∈ cs, ∀ l ∈ c, l ≠ 0 ∧ isF l m = true) : LitsIn n cs := fun c hc l hl => by
  have := h c hc l hl
  unfold isF at this
  simp at this
  exact ⟨this.1, by omega⟩
theorem sum_ge9 : ∀ {cs : List (List Int)} {c : List Int}, c ∈ cs → c.length ≤ (cs.map List.length).sum
  | x :: cs, c, h => by
    rw [List.map_cons, List.sum_cons]
    rcases List.mem_cons.1 h with rfl | h
    · omega
    · have := sum_ge9 h; omega
theorem all_snoc9 (cs : List (List Int)) (f : List Int → Bool) (k : Nat) (hk : k < cs.length) : (cs.take (k + 1)).all f = ((cs.take k).all f && f (cs.getD k [])) := by
  rw [List.take_succ_eq_append_getElem hk, List.all_append]; simp [List.getD, hk]
theorem any_snoc9 (cs : List Int) (f : Int → Bool) (k : Nat) (hk : k < cs.length) : (cs.take (k + 1)).any f = ((cs.take k).any f || f (cs.getD k 0)) := by
  rw [List.take_succ_eq_append_getElem hk, List.any_append]; simp [List.getD, hk]
theorem getD_in9 {l : List Int} {j : Nat} (h : j < l.length) : l.getD j 0 ∈ l := by simp [List.getD, h]
theorem getD_in99 {l : List (List Int)} {j : Nat} (h : j < l.length) : l.getD j [] ∈ l := by simp [List.getD, h]

set_option maxRecDepth 8000 in
set_option maxHeartbeats 4000000 in
theorem lawGc_any (A : Nat → Addr) (a : Option Addr) (c : Nat) (ls : List Int) (n : Int) (w : World) (hS : Sents2 w A) (hv : RowAt w a c ls) (hls : ∀ y ∈ ls, -9223372036854775808 ≤ y ∧ y ≤ 9223372036854775807) (hn1 : -9223372036854775808 ≤ n) (hn2 : n ≤ 9223372036854775807) :
    Calls Tryd.prog 5 #[.slice a ls.length c, .int .i64 n] w fun e w' => e = .returned (.bool true) ∧ Below w.heap.size w w' := by
  have HF := Lib.hid (first9_any A w hS)
  by_cases hout : 80 < ls.length
  · have d1 : decide (80 < ls.length) = true := decide_eq_true hout
    clear hv hls hS
    generalize ls.length = m at *
    go_enter Tryd.func5, Tryd.ntmps5
    go_wp2_with fail
    refine HF.out.mono ?_
    rintro e w1 ⟨rfl, hb1⟩
    go_wp2_with fail
    go_ret
    exact ⟨rfl, hb1⟩
  · have d1 : decide (80 < ls.length) = false := decide_eq_false hout
    have HE := Lib.hid (env0 hS)
    have HNEW := Lib.hid (fun W (hB : Below w.heap.size w W) => goNew (w := w) A hB 10 ⟨by decide, by decide⟩)
    have HG0 : Hid ((newG 10).Fine ∧ (newG 10).n = 10 ∧ (newG 10).len = 10 ∧ (newG 10).bad = 0) := ⟨newG_fine _, rfl, rfl, rfl⟩
    have HMK := Lib.hid (fun W (hW : Below w.heap.size w W) => makeClF_any a c ls 10 W (by omega) (by omega) (hv.keep hW) hls (by omega))
    have HML : Hid (ls.length ≤ 80) := by unfold Hid; omega
    clear hv hls hS
    generalize newG 10 = g at *
    unfold MakePostF at HMK
    generalize hcs : clsOf 10 ls = cs at *
    have HVAL := Lib.hid (fun W => values_any n 10 W hn1 hn2 (by omega))
    clear hcs
    generalize ls.length = m at *
    go_enter Tryd.func5, Tryd.ntmps5
    go_wp2_with fail
    refine HF.out.mono ?_
    rintro e w1 ⟨rfl, hb1⟩
    have HNW := Lib.hid (HNEW.out _ hb1)
    clear hb1 HNEW HF
    go_wp2_with fail
    refine HNW.out.mono ?_
    rintro e w2 ⟨p, rfl, hG⟩
    have HG2 := Lib.hid hG
    have HM2 := Lib.hid (HMK.out _ hG.below)
    clear hG HMK
    go_wp2_with fail
    refine HM2.out.mono ?_
    rintro e w3 ⟨⟨vc, rfl, hC, hlit, hsum, hcl⟩, hb3⟩
    have HB3 := Lib.hid hb3
    have hlits := litsIn_of (m := 10) (n := g.n) (by rw [HG0.out.2.1]; rfl) hlit
    have hml := HML.out
    have hsz : ∀ c ∈ cs, c.length ≤ 80 := fun c hc => by have := sum_ge9 hc; omega
    have HSZ := Lib.hid hsz
    have HLI := Lib.hid hlits
    have HSUM : Hid (sumL cs ≤ 80) := by unfold Hid sumL; omega
    have HCL : Hid (cs.length ≤ 80) := by unfold Hid; omega
    have HC3 := Lib.hid hC
    obtain ⟨ac, cc, rfl, _⟩ := hC.rows
    clear hlit hsum hcl hb3 hlits hsz hC
    go_wp2_with fail
    refine (HVAL.out _).mono ?_
    rintro e w4 ⟨zv, ins, rfl, hz, hb4⟩
    have hil : ins.length = 10 := by have := hz.1; simpa using this
    have HGC : Hid (Calls Tryd.prog 24 #[.pointer (some ⟨p, 0, none⟩), .slice ac cs.length cc] w4 fun e w' => e = .returned (.int .i64 (clausesG g cs).2) ∧ GIn (GP A p) w [] (clausesG g cs).1 w' ∧ OffC w' [] (.slice ac cs.length cc) cs ∧ BRow w' zv ins) := by
      have hb24 := HB3.out.trans (hb4.mono HB3.out.size)
      obtain ⟨S', hE', hG', hlt, hback⟩ := HG2.out.rebase (gopP A _) HE.out hb24
      have hoff := (HC3.out.keep hb4).off hlt
      refine (hG'.call (gopP A _) hE' (r := clausesG g cs) fun S2 hE2 hG2 hF2 => gcl0_any (gopP A _) hE2 hG2 _ cs (hoff.later (Chg.refl _ _) hF2) HLI.out (fun c hc => by have := HSZ.out c hc; omega) (by have := HCL.out; omega)).mono ?_
      rintro e w' ⟨he, h⟩
      refine ⟨he, hback _ _ h, hoff.later h.2 (fun i hi => by cases hi), own_rowG (own_chg hz h.2 fun k hk hm => ?_)⟩
      have h1 := hlt k hm
      have h2 := (hz.lt k hk).1
      have h3 := HB3.out.size
      omega
    have hmk := clausesG_mk HG0.out.1 cs HLI.out (by have := HSUM.out; have := HCL.out; have := HG0.out.2.2.1; omega)
    have HVL := Lib.hid (hmk.val ins)
    have HBAD := Lib.hid hmk.bad
    have hl8 : (clausesG g cs).1.len ≤ 8000 := by have := hmk.len; have := HSUM.out; have := HCL.out; have := HG0.out.2.2.1; omega
    have HRT := Lib.hid (fine_right hmk.fine [(clausesG g cs).2] (fun o ho => by simp at ho; subst ho; exact hmk.lit) hl8)
    have HNN : Hid (g.n = 10) := HG0.out.2.1
    obtain ⟨az, cz, rfl, _, _⟩ := own_shape hz
    clear hmk hl8 hz hb4 HVAL
    generalize clausesG g cs = R at *
    go_wp2_with fail
    refine HGC.out.mono ?_
    rintro e w5 ⟨rfl, hG, hOC, hBR⟩
    have HAL : Hid (Below w5.heap.size w5 (w5.alloc (.cells #[.int .i64 R.2] 3))) := (Below.refl _ _).alloc (Nat.le_refl _) _
    have HGA := Lib.hid (hG.keep (grKind A (.pointer (some ⟨p, 0, none⟩))) HAL.out)
    have HCI := Lib.hid (giCirc HGA.out (.slice (some ⟨w5.heap.size, 0, none⟩) 1 1) [R.2] (own_row (own_lit1 w5 w5.heap.size R.2 (Nat.le_refl _))) (by simp))
    have HOC := Lib.hid (hOC.keep HAL.out)
    have HBR := Lib.hid (hBR.keep HAL.out)
    clear hG hOC hBR
    unfold CirPost at HCI
    go_wp2_with fail
    refine HCI.out.mono ?_
    rintro e w6 ⟨⟨u, v, rfl, hu, hvv⟩, hb6⟩
    have HU := Lib.hid (own_prow hu)
    have HV := Lib.hid (own_row hvv)
    have HG6 := Lib.hid (HGA.out.keep (grKind A (.pointer (some ⟨p, 0, none⟩))) hb6)
    have HOC6 := Lib.hid (HOC.out.keep hb6)
    have HBR6 := Lib.hid (HBR.out.keep hb6)
    have HEV := Lib.hid (eval_any R.1.n _ _ _ R.1.ands [R.2] ins w6 HU.out HV.out HBR6.out (by omega) (by simp) HRT.out)
    have HEQ : Hid (evalV R.1.n R.1.ands [R.2] ins = [cs.all fun c => c.any (litW ins)]) := by
      unfold Hid evalV
      simp only [List.map_cons, List.map_nil]
      rw [← HVL.out]
      rfl
    rw [HEQ.out] at HEV
    obtain ⟨au, cu, rfl, _, _⟩ := row_shape hu
    obtain ⟨av, cv, rfl, _, _⟩ := row_shape hvv
    unfold circV at HEV
    clear hu hvv hb6 HEQ HVL HRT HU HV HGA HOC HBR
    go_wp2_with fail
    refine HEV.out.mono ?_
    rintro e w7 ⟨z2, rfl, hz2, hb7⟩
    have HG7 := Lib.hid (HG6.out.keep (grKind A (.pointer (some ⟨p, 0, none⟩))) hb7)
    have HOC7 := Lib.hid (HOC6.out.keep hb7)
    have HBR7 := Lib.hid (HBR6.out.keep hb7)
    obtain ⟨a2, c2, rfl, hz3, hz4, hz5⟩ := own_rowG (mk := Value.bool) (d := false) hz2
    obtain ⟨b2, off2, ha2, hb2, hc2⟩ := hz5.resolve_left (by simp)
    subst ha2
    have HV0 := Lib.hid (hc2 0 (by simp))
    clear hz2 hb7 hc2 hz5 HEV HG6 HOC6 HBR6
    generalize hbb : (cs.all fun c => c.any (litW ins)) = bb at *
    have HBB := Lib.hid hbb
    clear hbb
    simp only [List.getD_cons_zero, Nat.add_zero] at HV0
    simp only [List.length_cons, List.length_nil, Nat.zero_add] at hz3 ⊢
    unfold maxLen at hz4
    have HER := Lib.hid (giErr HG7.out)
    rw [HBAD.out, show errC A 0 = .nilIface from rfl] at HER
    have HOQ : Hid (cs.length ≤ cc ∧ cc ≤ maxLen ∧ (cs.length = 0 ∨ ∃ b off, ac = some ⟨b, off, none⟩ ∧ ∀ i, i < cs.length → ∃ ai ci, w7.cell? ⟨b, off + i, none⟩ = some (.slice ai (cs.getD i []).length ci) ∧ (cs.getD i []).length ≤ ci ∧ ci ≤ maxLen ∧ ((cs.getD i []).length = 0 ∨ ∃ bi oi, ai = some ⟨bi, oi, none⟩ ∧ ∀ j, j < (cs.getD i []).length → w7.cell? ⟨bi, oi + j, none⟩ = some (.int .i64 ((cs.getD i []).getD j 0))))) := by
      obtain ⟨a9, c9, e9, h1, h2, h3⟩ := HOC7.out
      injection e9 with e1 e2 e3
      subst e1; subst e3
      refine ⟨h1, h2, h3.imp id ?_⟩
      rintro ⟨b, off, ha, hb, hn, hc⟩
      refine ⟨b, off, ha, fun i hi => ?_⟩
      obtain ⟨ui, hui, ai, ci, e, g1, g2, g3⟩ := hc i hi
      subst e
      refine ⟨ai, ci, hui, g1, g2, g3.imp id ?_⟩
      rintro ⟨bi, oi, hbi, _, _, hcc⟩
      exact ⟨bi, oi, hbi, hcc⟩
    obtain ⟨hoq1, hoq2, hoq3⟩ := HOQ.out
    have HOC8 := Lib.hid hoq3
    unfold maxLen at hoq2
    clear hoq3 HOQ HOC7
    obtain ⟨a8, c8, e8, hr1, hr2, hr3⟩ := HBR7.out
    rw [hil] at e8 hr1 hr3
    injection e8 with e81 e82 e83
    subst e81; subst e83
    obtain ⟨b8, off8, ha8, hb8, hc8⟩ := hr3.resolve_left (by omega)
    subst ha8
    have HIN := Lib.hid hc8
    have HAS := Lib.hid (fun k (hk : k < cs.length) => all_snoc9 cs (fun c => c.any (litW ins)) k hk)
    have HLL : Hid (∀ i, i < cs.length → ∀ j, j < (cs.getD i []).length → (cs.getD i []).getD j 0 ≠ 0 ∧ ((cs.getD i []).getD j 0).natAbs ≤ 10) := fun i hi j hj => by
      have := HLI.out _ (getD_in99 hi) _ (getD_in9 hj)
      rw [HNN.out] at this
      exact this
    have HTE : Hid (cs.take cs.length = cs) := List.take_length
    unfold maxLen at hr2
    clear hr3 hc8 HBR7 hil e82
    generalize hcn : cs.length = nc at *
    have HNC := Lib.hid hcn
    clear hcn
    go_wp2_with fail
    go_loopw [11, 10, 12, 13, 14] (fun i b _ _ _ wr => ∃ k : Nat, k ≤ nc ∧ i = .int .i64 k ∧ b = .bool ((cs.take k).all fun c => c.any (litW ins)) ∧ wr = w7) (fun i _ _ _ _ _ => nc - (intOf i).toNat)
    case atStart => exact ⟨0, Nat.zero_le _, rfl, by rw [List.take_zero]; rfl, rfl⟩
    case round =>
      obtain ⟨k, hk, rfl, rfl, rfl⟩ := hrel
      by_cases hlt : k < nc
      · obtain ⟨b, off, ha, hc⟩ := HOC8.out.resolve_left (by omega)
        subst ha
        obtain ⟨ai, ci, y0, hi1, hi2, hi3⟩ := hc k hlt
        unfold maxLen at hi2
        have HI := Lib.hid hi3
        have HLK := Lib.hid (HLL.out k hlt)
        have HAK := Lib.hid (HAS.out k hlt)
        have HNS := Lib.hid (fun j (hj : j < (cs.getD k []).length) => any_snoc9 (cs.getD k []) (litW ins) j hj)
        have HTE2 : Hid ((cs.getD k []).take (cs.getD k []).length = cs.getD k []) := List.take_length
        clear hc hi3
        generalize cs.getD k [] = cl at *
        generalize hlm : cl.length = lm at *
        have HLM := Lib.hid hlm
        clear hlm
        generalize ((cs.take k).all fun c => c.any (litW ins)) = want at *
        go_wp2_with fail
        go_loopw [13, 12, 14] (fun i b _ wr2 => ∃ t : Nat, t ≤ lm ∧ i = .int .i64 t ∧ b = .bool ((cl.take t).any (litW ins)) ∧ wr2 = wr) (fun i _ _ _ => lm - (intOf i).toNat)
        case atStart => exact ⟨0, Nat.zero_le _, rfl, by rw [List.take_zero]; rfl, rfl⟩
        case round =>
          obtain ⟨t, ht, rfl, rfl, rfl⟩ := hrel
          by_cases hlt2 : t < lm
          · obtain ⟨bi, oi, hai, hci⟩ := HI.out.resolve_left (by omega)
            subst hai
            have y1 := hci t hlt2
            obtain ⟨hy0, hy1⟩ := HLK.out t hlt2
            have HNT := Lib.hid (HNS.out t hlt2)
            clear hci
            generalize cl.getD t 0 = y at *
            generalize (cl.take t).any (litW ins) = so at *
            cases so with
            | true =>
              rw [Bool.true_or] at HNT
              go_wp2_with fail
              go_roundw
              case rel => exact ⟨t + 1, by omega, by go_num, by rw [HNT.out], by first | rfl | trivial⟩
              case measure => simp [intOf]; omega
            | false =>
              rw [Bool.false_or] at HNT
              by_cases hp : 0 < y
              · have hlw : litW ins y = ins.getD (y.toNat - 1) false := by
                  unfold litW
                  rw [decide_eq_false (show ¬ y < 0 by omega), show y.natAbs = y.toNat by omega]
                  simp
                rw [hlw] at HNT
                obtain ⟨yn, rfl⟩ : ∃ yn : Nat, y = ((yn + 1 : Nat) : Int) := ⟨y.toNat - 1, by omega⟩
                have x0 := HIN.out yn (by omega)
                rw [show ((yn + 1 : Nat) : Int).toNat - 1 = yn by omega] at HNT
                have hyn : yn < 10 := by omega
                have hd1 : decide ((0 : Int) < ((yn + 1 : Nat) : Int)) = true := decide_eq_true hp
                have hd2 : decide (((yn + 1 : Nat) : Int) < 0) = false := decide_eq_false (by omega)
                clear hlw hy0 hy1
                generalize ins.getD yn false = bx at *
                cases bx
                all_goals
                  go_wp2_with fail
                  go_roundw
                  case rel => exact ⟨t + 1, by omega, by go_num, by rw [HNT.out], by first | rfl | trivial⟩
                  case measure => simp [intOf]; omega
              · have hneg : y < 0 := by omega
                have hlw : litW ins y = !(ins.getD ((-y).toNat - 1) false) := by
                  unfold litW
                  rw [decide_eq_true hneg, show y.natAbs = (-y).toNat by omega]
                  cases ins.getD ((-y).toNat - 1) false <;> rfl
                rw [hlw] at HNT
                obtain ⟨yn, rfl⟩ : ∃ yn : Nat, y = -((yn : Int) + 1) := ⟨(-y).toNat - 1, by omega⟩
                have x0 := HIN.out yn (by omega)
                rw [show (-(-((yn : Int) + 1))).toNat - 1 = yn by omega] at HNT
                have hyn : yn < 10 := by omega
                clear hlw hy0 hy1
                generalize ins.getD yn false = bx at *
                go_wp2_with fail
                go_roundw
                case rel => exact ⟨t + 1, by omega, by go_num, by rw [HNT.out], by first | rfl | trivial⟩
                case measure => simp [intOf]; omega
          · have htm : lm = t := by omega
            subst htm
            rw [HTE2.out]
            generalize cl.any (litW ins) = so at *
            cases want
            all_goals
              go_wp2_with fail
              go_roundw
              case rel => exact ⟨k + 1, by omega, by go_num, by rw [HAK.out]; first | rfl | simp, by first | rfl | trivial⟩
              case measure => simp [intOf]; omega
      · have hkn : nc = k := by omega
        subst hkn
        rw [HTE.out, HBB.out]
        have y0 := HV0.out
        have HBE := Lib.hid HG7.out.below
        go_wp2_with fail
        refine HER.out.mono ?_
        rintro e w' ⟨rfl, rfl⟩
        go_wp2_with fail
        go_ret
        exact ⟨rfl, HBE.out⟩
end Go.Proofs.YtbighmmjmklioaaDoor
