/- The walk of skolemlaw16.LearnShortens: it answers true. Conditions: the arguments read as 64-bit ints. -/
import Derived.Test.YtjlmooimdogmjaaLg44
import Derived.Test.YtjlmooimdogmjaaLg47
import Derived.Test.YtjlmooimdogmjaaLg51
import Derived.BigQuiet
set_option linter.unusedVariables false
set_option linter.unusedSimpArgs false
set_option linter.unusedVariables false
set_option linter.unusedSimpArgs false
namespace Go.Proofs.Ytjlmooimdogmjaa
open Go.RowKit

theorem ShY.wrg {p : Pr} (hw : PrW p) {c y : List Int} (hc : AllF p c) (hy : ShY p c c y) {xs : List (List Int)} (hs : ∀ D l, Fol (clsP p) D l → Fol xs D l) : Wrg (xs ++ [c]) (y.map fun l => -l) := by
  refine .inl ⟨c, by simp, fun k hk => ?_⟩
  rcases hy.2.2.2 k hk with h | ⟨i, hi, hv, hb⟩
  · exact .dec (List.mem_map.2 ⟨k, h, rfl⟩)
  · have h1 := hen_fol hw hc hy.2.2.2 (i + 1) i (Nat.lt_succ_self _) hi (hen_iff.2 (.inr (.inr hb)))
    rw [hw.tr_get hi (hc k hk) (by rw [plc_negate, hv])] at h1
    exact (hs _ _ h1).mono (fun d hd => List.mem_append.2 (.inl hd)) fun l hl => hl

set_option maxRecDepth 8000 in
set_option maxHeartbeats 8000000 in
theorem lawLh (la : Option Addr) (lc : Nat) (ls : List Int) (ov : Value) (os : List Int) (w : World) (hl : RowAt w la lc ls) (ho : Row w ov os)
    (hli : ∀ y ∈ ls, -9223372036854775808 ≤ y ∧ y ≤ 9223372036854775807) (hoi : ∀ y ∈ os, -9223372036854775808 ≤ y ∧ y ≤ 9223372036854775807) :
    Calls Try.prog 4 #[.slice la ls.length lc, ov] w fun e w' => e = .returned (.bool true) ∧ Below w.heap.size w w' := by
  have HRL : Hid (∀ V, Below w.heap.size w V → RowAt V la lc ls) := fun V hV => (row_at (Row.keep ⟨la, lc, rfl, hl⟩ hV)).2
  have HRO : Hid (∀ V, Below w.heap.size w V → Row V ov os) := fun V hV => ho.keep hV
  obtain ⟨oa, oc, rfl, ho1, ho2, _⟩ := ho
  have HLI := Lib.hid hli
  have HOI := Lib.hid hoi
  clear hli hoi hl
  by_cases g1 : 120 < ls.length
  · have d1 : decide ((120 : Int) < ((ls.length : Nat) : Int)) = true := decide_eq_true (by omega)
    clear g1
    go_enter Try.func4, Try.ntmps4
    go_wp2_with fail
    refine (first16_any _).mono ?_
    rintro e w1 ⟨rfl, hb⟩
    go_wp2_with fail
    go_ret
    exact ⟨rfl, hb⟩
  have d1 : decide ((120 : Int) < ((ls.length : Nat) : Int)) = false := decide_eq_false (by omega)
  by_cases g2 : 12 < os.length
  · have d2 : decide ((12 : Int) < ((os.length : Nat) : Int)) = true := decide_eq_true (by omega)
    clear g1 g2
    go_enter Try.func4, Try.ntmps4
    go_wp2_with fail
    refine (first16_any _).mono ?_
    rintro e w1 ⟨rfl, hb⟩
    go_wp2_with fail
    go_ret
    exact ⟨rfl, hb⟩
  have d2 : decide ((12 : Int) < ((os.length : Nat) : Int)) = false := decide_eq_false (by omega)
  have HCF : Hid (∀ V, Below w.heap.size w V → Calls Try.prog 9 #[.slice la ls.length lc, .slice oa os.length oc] V fun e w' => ∃ v cv dv p k b T xs, e = .returned (.tuple #[v, cv, dv, .int .i64 k, .bool b]) ∧ ConfR V w' T v p cv dv xs ∧ ConfE p k b) := fun V hV => conflict_any la lc ls _ os V (HRL.out V hV) (HRO.out V hV) HLI.out HOI.out (by omega) (by omega)
  clear g1 g2
  go_enter Try.func4, Try.ntmps4
  go_wp2_with fail
  refine (first16_any _).mono ?_
  rintro e w1 ⟨rfl, hb⟩
  have HB1 := Lib.hid hb
  clear hb
  go_wp2_with fail
  refine (HCF.out _ HB1.out).mono ?_
  rintro e w2 ⟨v, cv, dv, p, k, b, T, xs, rfl, hC, hE⟩
  obtain ⟨q, rfl⟩ := hC.pt.ptr
  obtain ⟨ca, cc, rfl, _⟩ := hC.rows
  obtain ⟨da, dc, rfl, _⟩ := hC.dec
  have HC := Lib.hid hC
  have HB2 : Hid (Below w.heap.size w w2) := HB1.out.trans (hC.pt.bel.mono HB1.out.size)
  clear hC HCF HRL HRO HLI HOI d1 d2
  rcases hE with ⟨rfl, hst, hlv, i, c, rfl, hkc, hf, hne⟩ | ⟨rfl, _⟩
  · have HFR := Lib.hid (HC.out.pt.use fun S hS => from_any w2 hS (by have := HC.out.len; omega) i c hkc hf hne hst)
    have HST := Lib.hid hst
    have HLV := Lib.hid hlv
    have HTP := Lib.hid (top_last HC.out.pt.wf hlv hst (mem_clsP.2 ⟨i, hkc⟩) hf)
    clear hst hlv hkc hf hne
    go_wp2_with fail
    refine HFR.out.mono ?_
    rintro e w3 ⟨u, r, cl, sv, rfl, hrow, ⟨sa, sn, sc, rfl⟩, hL, hb3⟩
    have HLES := Lib.hid hL
    obtain ⟨bk, hbk⟩ : ∃ bk, topL p r = bk := ⟨_, rfl⟩
    obtain ⟨yl, hyl⟩ : ∃ yl, u :: r = yl := ⟨_, rfl⟩
    rw [hbk, hyl]
    rw [hyl] at hrow
    obtain ⟨sc9, hsc⟩ : ∃ sc9, ((ddL (yl.map fun l => levP p (plc l : Int))).length : Int) = sc9 := ⟨_, rfl⟩
    rw [hsc]
    have HYL := Lib.hid hyl
    have HBK := Lib.hid hbk
    have HSC := Lib.hid hsc
    have hbb : 0 ≤ bk ∧ bk ≤ 5000 := by
      have h1 := topL_zero (p := p) r
      have h2 := topL_le (p := p) r 5000 (by omega) fun l hl => by
        have := (hL.allF.bd HC.out.pt.wf (List.mem_cons_of_mem u hl)).2.2.2.2
        rw [plc_absI]; omega
      omega
    have HAF : Hid (AllF p yl) := by unfold Hid; rw [← hyl]; exact hL.allF
    have hM1 : 1 ≤ yl.length := by rw [← hyl]; simp
    have HMX : Hid (yl.length ≤ 20) := by
      unfold Hid
      rw [← hyl, List.length_cons]
      have hsub : r.map plc ⊆ List.range 13 := fun v hv => by
        obtain ⟨l, hl, e⟩ := List.mem_map.1 hv
        have h1 := HC.out.pt.wf.rgt _ (hL.rst l hl).1
        rw [plc_negate] at h1
        have := HC.out.n
        exact List.mem_range.2 (by omega)
      have := hL.nd.length_le_of_subset hsub
      simp at this
      omega
    clear hyl hbk hsc
    have HLB := Lib.hid (LsB.new (T := T) (bk := bk) (sc := sc9) (sv := .slice sa sn sc) hb3 hrow)
    have hb4 : Below w2.heap.size w2 (w3.alloc (.cells #[cl, .int .i64 bk, .int .i64 sc9, .slice sa sn sc] 29)) := hb3.alloc hb3.size _
    have HPT := Lib.hid (HC.out.pt.more hb4 (U := fun i => T i ∨ NewB w2 (w3.alloc (.cells #[cl, .int .i64 bk, .int .i64 sc9, .slice sa sn sc] 29)) i) fun i hi => hi)
    have HRX := Lib.hid ((HC.out.rows.keep (Kp.below hb4 fun i hi => HC.out.pt.tlt i hi)).sub (U := fun i => T i ∨ NewB w2 (w3.alloc (.cells #[cl, .int .i64 bk, .int .i64 sc9, .slice sa sn sc] 29)) i) fun i hi => .inl hi)
    have HB4 : Hid (Below w.heap.size w (w3.alloc (.cells #[cl, .int .i64 bk, .int .i64 sc9, .slice sa sn sc] 29))) := HB2.out.trans (hb4.mono HB2.out.size)
    obtain ⟨la2, lc2, rfl, hla1, hla2, _⟩ := hrow
    unfold maxLen at hla2
    clear hL hb3 hb4 HFR
    generalize hM : yl.length = M at *
    have HM := Lib.hid hM
    clear hM
    have hMX := HMX.out
    have hm0 : ((M : Int) == 0) = false := by simp; omega
    go_wp2_with fail
    clear hm0
    generalize hw4 : w3.alloc (.cells #[.slice la2 M lc2, .int .i64 bk, .int .i64 sc9, .slice sa sn sc] 29) = w4 at *
    clear hw4
    generalize (fun i => T i ∨ NewB w2 w4 i) = U at *
    generalize w3.heap.size = G at *
    have hne2 : yl ≠ [] := by intro e; have := HM.out; rw [e] at this; simp at this; omega
    have HSH := Lib.hid (HPT.out.use fun S hS => shorten_any w4 hS (by have := HC.out.len; omega) (.slice la2 M lc2) yl HLB.out.row HPT.out.tlt HAF.out hne2 (by rw [HM.out]; omega))
    refine HSH.out.mono ?_
    rintro e w5 ⟨sv5, y, rfl, hs5, hY, hb5⟩
    have HB5 : Hid (Below w.heap.size w w5) := HB4.out.trans (hb5.mono (by have := HB4.out.size; exact this))
    have HLB5 := Lib.hid (HLB.out.keep (Kp.below hb5 HPT.out.tlt))
    have HRX5 := Lib.hid (HRX.out.keep (Kp.below hb5 HPT.out.tlt))
    have HUL5 : Hid (∀ i, U i → i < w5.heap.size) := fun i hi => Nat.lt_of_lt_of_le (HPT.out.tlt i hi) hb5.size
    have HY := Lib.hid hY
    have HS5 := Lib.hid hs5
    have hy1 : 1 ≤ y.length ∧ y.length ≤ M := by
      obtain ⟨r', e⟩ := hY.2.2.1 (by rw [HM.out]; omega)
      have := hY.2.1
      rw [HM.out] at this
      exact ⟨by rw [e]; simp, this⟩
    have hyu : y.getD 0 0 = u := by
      obtain ⟨r', e⟩ := hY.2.2.1 (by rw [HM.out]; omega)
      rw [e, ← HYL.out]; rfl
    obtain ⟨ya, yc, rfl, hya, hyc, hyx⟩ := hs5
    unfold maxLen at hyc
    obtain ⟨b3, off3, rfl, hb3, _, hcell3⟩ := hyx.resolve_left (by omega)
    have y3 := hcell3 0 (by omega)
    rw [Nat.add_zero, hyu] at y3
    have HY3 := Lib.hid y3
    obtain ⟨a9, c9, e9, _, _, hx9⟩ := HLB5.out.row
    injection e9 with e91 e92 e93
    subst e91; subst e93
    clear e92
    obtain ⟨b2, off2, rfl, hb2l, _, hcell2⟩ := hx9.resolve_left (by rw [HM.out]; omega)
    have y2 := hcell2 0 (by rw [HM.out]; omega)
    have hyl0 : yl.getD 0 0 = u := by rw [← HYL.out]; rfl
    rw [Nat.add_zero, hyl0] at y2
    have HCE3 := Lib.hid hcell3
    have HB3L := Lib.hid hb3
    have c0 := HLB5.out.c0
    have HUB := HAF.out.bd HPT.out.wf (l := u) (by rw [← HYL.out]; simp)
    obtain ⟨⟨hu1, hu2⟩, _⟩ := HUB
    clear hY hb5 hyx hx9 hcell2 hcell3 HSH hyl0 hyu hb3 hb2l hne2
    generalize hYn : y.length = Y at *
    have HYN := Lib.hid hYn
    clear hYn
    obtain ⟨hY1, hY2⟩ := hy1
    have d1 : ((Y : Int) == 0) = false := by rw [beq_eq_false_iff_ne]; omega
    have d2 : (u != u) = false := by simp
    have d3 : decide ((M : Int) < (Y : Int)) = false := decide_eq_false (by omega)
    have d4 : decide (M < Y) = false := decide_eq_false (by omega)
    go_wp2_with fail
    go_quiet (fail)
    go_wp2_with fail
    clear d1 d2 d3 d4 y3 y2 c0
    go_loopw [14] (fun iv V => ∃ j : Nat, j ≤ Y ∧ iv = .int .i64 (j : Int) ∧ Below w5.heap.size w5 V) (fun iv _ => Y - (intOf iv).toNat)
    case atStart => exact ⟨0, Nat.zero_le _, rfl, below_draws ⟨_, rfl⟩⟩
    case round =>
      obtain ⟨j, hj, rfl, hbV⟩ := hrel
      have HBV := Lib.hid hbV
      have HLV := Lib.hid (HLB5.out.keep (Kp.below hbV HUL5.out))
      have c0 := HLV.out.c0
      clear hbV
      by_cases hlt : j < Y
      · as_aux_lemma =>
        have y3 := (HBV.out.cell (p := ⟨b3, off3 + j, none⟩) HB3L.out).trans (HCE3.out j hlt)
        have hmem : y.getD j 0 ∈ yl := HY.out.1 _ (getD_mem (by rw [HYN.out]; exact hlt))
        have HHS : Hid (∀ t, Calls Try.prog 14 #[.slice (some ⟨b2, off2, none⟩) M lc2, .int .i64 (y.getD j 0)] (wr.drewN t) fun e w' => e = .returned (.bool true) ∧ wr.drewN t = w') := fun t => by
          have := has_any _ yl (y.getD j 0) (wr.drewN t) (HLV.out.row.row.keep (below_draws ⟨t, rfl⟩))
          rwa [decide_eq_true hmem] at this
        clear hmem
        generalize y.getD j 0 = z at *
        go_wp2_with fail
        go_quiet (first
          | (go_at_call 14; refine (HHS.out _).mono ?_; rintro e w' ⟨rfl, rfl⟩; exact ⟨rfl, _, rfl⟩))
        go_wp2_with fail
        go_roundw
        case rel => exact ⟨j + 1, by omega, by go_num, HBV.out.trans ((below_draws ⟨_, rfl⟩).mono HBV.out.size)⟩
        case measure => go_light; simp [intOf]; omega
      · as_aux_lemma =>
        have e1 : decide ((j : Int) < (Y : Int)) = false := decide_eq_false (by omega)
        have e2 : decide (j < Y) = false := decide_eq_false hlt
        clear hlt
        have hbs : (wr.alloc (.cells #[.int .i64 12, .slice ca xs.length cc] 37)).heap.size = wr.heap.size + 1 := Array.size_push _
        have hbA : Below wr.heap.size wr (wr.alloc (.cells #[.int .i64 12, .slice ca xs.length cc] 37)) := (Below.refl _ _).alloc (Nat.le_refl _) _
        have hbk : (wr.alloc (.cells #[.int .i64 12, .slice ca xs.length cc] 37)).heap[wr.heap.size]? = some (.cells #[.int .i64 12, .slice ca xs.length cc] 37) := heap_alloc_new wr _
        have hsz5 := HBV.out.size
        have hLA : ∀ i, U i → i < wr.heap.size := fun i hi => Nat.lt_of_lt_of_le (HUL5.out i hi) hsz5
        have HRA := (HRX5.out.keep (Kp.below HBV.out HUL5.out)).keep (Kp.below hbA hLA)
        have HLA := HLV.out.keep (Kp.below hbA hLA)
        have hxl : xs.length ≤ 900 := by have := HC.out.xlen; omega
        have hyb : ∀ l ∈ yl, 1 ≤ plc l ∧ (plc l : Int) ≤ 12 := fun l hl => by
          have h1 := HPT.out.wf.rgt _ (HAF.out l hl)
          rw [plc_negate, HC.out.n] at h1
          omega
        have HYB := Lib.hid hyb
        have HAD := Lib.hid (radd_any wr.heap.size 12 ca cc xs (.slice (some ⟨b2, off2, none⟩) M lc2) yl (wr.alloc (.cells #[.int .i64 12, .slice ca xs.length cc] 37)) (by rw [hbs]; exact Nat.lt_succ_self _) (by unfold World.cell?; rw [hbk]; rfl) (by unfold World.cell?; rw [hbk]; rfl) (by unfold World.frozen?; rw [hbk]; rfl) (by decide) (by decide) (HRA.sub hLA) (HLA.row.sub hLA) hyb (by rw [HM.out]; omega) hxl)
        have HRG := Lib.hid HC.out.rgt
        have HWG := Lib.hid (HY.out.wrg HPT.out.wf HAF.out (xs := xs) fun D l h => (HC.out.same.fol (fun _ => Iff.rfl) l).2 h)
        have HBA := Lib.hid (HBV.out.trans (hbA.mono hsz5))
        have HISU := Lib.hid (fun V => refIs_any u 12 V (by omega) (by omega) (by decide) (by decide))
        have HSZ : Hid (w5.heap.size ≤ wr.heap.size) := hsz5
        have HBS := Lib.hid hbs
        have c0A := HLA.c0
        clear hbs hbA hbk hLA HRA HLA hxl hyb c0 hsz5
        go_wp2_with fail
        refine HAD.out.mono ?_
        rintro e w7 ⟨rfl, hch, k0, a7, c7, k1, hr7⟩
        have HB57 : Hid (Below w5.heap.size w5 w7) := HBA.out.trans (hch.below (Below.refl _ _) (by rw [HBS.out]; have := HSZ.out; omega) (by simp; exact HSZ.out))
        have HIM := Lib.hid (implied_any wr.heap.size 12 a7 c7 (xs ++ [yl]) (.slice (some ⟨b3, off3, none⟩) Y yc) y w7 (Nat.lt_of_lt_of_le (by rw [HBS.out]; exact Nat.lt_succ_self _) hch.size) k0 k1 (by decide) (by decide) hr7 (HS5.out.keep (Kp.below HB57.out fun i hi => hi.2)).row (fun c hc l hl => by
          rcases List.mem_append.1 hc with h | h
          · have := HRG.out c h l hl; omega
          · simp at h; subst h; exact HYB.out l hl) (fun l hl => HYB.out l (HY.out.1 l hl)) (by rw [HYN.out]; omega) HWG.out)
        clear k0 k1 hr7 hch HAD c0A
        go_wp2_with fail
        refine HIM.out.mono ?_
        rintro e w8 ⟨rfl, hb8⟩
        have HB58 : Hid (Below w5.heap.size w5 w8) := HB57.out.trans (hb8.mono HB57.out.size)
        have y8 := (HB58.out.cell (p := ⟨b3, off3, none⟩) HB3L.out).trans HY3.out
        have hu := HYB.out u (by rw [← HYL.out]; simp)
        have HI8 := Lib.hid (HISU.out w8)
        have hpu := plc_absI u
        rw [show isB 12 u = true by
          rw [hpu] at hu
          unfold isB
          simp
          omega] at HI8
        clear hb8 hu hpu HIM
        go_wp2_with fail
        refine HI8.out.mono ?_
        rintro e w9 ⟨rfl, rfl⟩
        go_wp2_with fail
        go_ret
        exact ⟨rfl, HB5.out.trans (HB58.out.mono HB5.out.size)⟩
  · go_wp2_with fail
    go_ret
    exact ⟨rfl, HB2.out⟩
end Go.Proofs.Ytjlmooimdogmjaa
