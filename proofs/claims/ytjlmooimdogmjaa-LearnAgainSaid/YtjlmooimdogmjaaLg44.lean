/- The walk of skolemlaw16.LearnSays: it answers true. Conditions: the arguments read as 64-bit ints. -/
import Derived.Test.YtjlmooimdogmjaaLg42
set_option linter.unusedVariables false
set_option linter.unusedSimpArgs false
set_option linter.unusedVariables false
set_option linter.unusedSimpArgs false
namespace Go.Proofs.Ytjlmooimdogmjaa
open Go.RowKit

theorem RowT.sub {w : World} {T U : Nat → Prop} {v : Value} {xs : List Int} (h : RowT w T v xs) (hs : ∀ i, T i → U i) : RowT w U v xs := by
  obtain ⟨a, c, e, h1, h2, h3⟩ := h
  exact ⟨a, c, e, h1, h2, h3.imp id fun ⟨b, off, e, h4, h5, h6⟩ => ⟨b, off, e, h4, hs b h5, h6⟩⟩
theorem RowsT.sub {w : World} {T U : Nat → Prop} {v : Value} {xss : List (List Int)} (h : RowsT w T v xss) (hs : ∀ i, T i → U i) : RowsT w U v xss := by
  obtain ⟨a, c, e, h1, h2, h3⟩ := h
  exact ⟨a, c, e, h1, h2, h3.imp id fun ⟨b, off, e, h4, h5, h6⟩ => ⟨b, off, e, h4, hs b h5, fun i hi => (h6 i hi).imp fun u ⟨k1, k2⟩ => ⟨k1, k2.sub hs⟩⟩⟩
/-- The greatest level of all but the first. -/
def mostL (p : Pr) (c : List Int) (j : Nat) : Int := topL p ((c.take j).drop 1)
theorem mostL_step (p : Pr) (c : List Int) (j : Nat) (hj : j < c.length) : mostL p c (j + 1) = if j = 0 then 0 else max (mostL p c j) (levP p (absI (c.getD j 0))) := by
  unfold mostL
  rw [take_snoc c j hj]
  by_cases h : j = 0
  · subst h; rw [if_pos rfl]; rfl
  · rw [if_neg h, List.drop_append_of_le_length (by rw [List.length_take]; omega), topL_snoc, plc_absI]
/-- The lesson in memory: its box in the block G, its clause. -/
structure LsB (W : World) (U : Nat → Prop) (G : Nat) (cl : Value) (bk sc : Int) (sv : Value) (c : List Int) : Prop where
  c0 : W.cell? ⟨G, 0, none⟩ = some cl
  c1 : W.cell? ⟨G, 1, none⟩ = some (.int .i64 bk)
  c2 : W.cell? ⟨G, 2, none⟩ = some (.int .i64 sc)
  uG : U G
  row : RowT W U cl c
theorem LsB.keep {W W' : World} {U : Nat → Prop} {G : Nat} {cl sv : Value} {bk sc : Int} {c : List Int} (h : LsB W U G cl bk sc sv c) (hk : Kp U W W') : LsB W' U G cl bk sc sv c :=
  have e := hk.blk G h.uG
  ⟨(World.cell?_of_block (a := ⟨G, 0, none⟩) e).trans h.c0, (World.cell?_of_block (a := ⟨G, 1, none⟩) e).trans h.c1, (World.cell?_of_block (a := ⟨G, 2, none⟩) e).trans h.c2, h.uG, h.row.keep hk⟩
theorem LsB.new {W0 W : World} {cl sv : Value} {bk sc : Int} {c : List Int} {T : Nat → Prop} (hb : Below W0.heap.size W0 W) (hr : RowT W (NewB W0 W) cl c) : LsB (W.alloc (.cells #[cl, .int .i64 bk, .int .i64 sc, sv] 29)) (fun i => T i ∨ NewB W0 (W.alloc (.cells #[cl, .int .i64 bk, .int .i64 sc, sv] 29)) i) W.heap.size cl bk sc sv c := by
  have hs : (W.alloc (.cells #[cl, .int .i64 bk, .int .i64 sc, sv] 29)).heap.size = W.heap.size + 1 := Array.size_push _
  have hA : Below W.heap.size W (W.alloc (.cells #[cl, .int .i64 bk, .int .i64 sc, sv] 29)) := (Below.refl _ _).alloc (Nat.le_refl _) _
  refine ⟨?_, ?_, ?_, .inr ⟨hb.size, by rw [hs]; exact Nat.lt_succ_self _⟩, (hr.keep (Kp.below hA fun i hi => hi.2)).sub fun i hi => .inr ⟨hi.1, by rw [hs]; exact Nat.lt_succ_of_lt hi.2⟩⟩
  all_goals (unfold World.cell?; rw [show (W.alloc (.cells #[cl, .int .i64 bk, .int .i64 sc, sv] 29)).heap[W.heap.size]? = _ from heap_alloc_new W _]; rfl)

set_option maxRecDepth 8000 in
set_option maxHeartbeats 8000000 in
theorem lawLs (la : Option Addr) (lc : Nat) (ls : List Int) (ov : Value) (os : List Int) (w : World) (hl : RowAt w la lc ls) (ho : Row w ov os)
    (hli : ∀ y ∈ ls, -9223372036854775808 ≤ y ∧ y ≤ 9223372036854775807) (hoi : ∀ y ∈ os, -9223372036854775808 ≤ y ∧ y ≤ 9223372036854775807) :
    Calls Try.prog 3 #[.slice la ls.length lc, ov] w fun e w' => e = .returned (.bool true) ∧ Below w.heap.size w w' := by
  have HRL : Hid (∀ V, Below w.heap.size w V → RowAt V la lc ls) := fun V hV => (row_at (Row.keep ⟨la, lc, rfl, hl⟩ hV)).2
  have HRO : Hid (∀ V, Below w.heap.size w V → Row V ov os) := fun V hV => ho.keep hV
  obtain ⟨oa, oc, rfl, ho1, ho2, _⟩ := ho
  have HLI := Lib.hid hli
  have HOI := Lib.hid hoi
  clear hli hoi hl
  by_cases g1 : 120 < ls.length
  · have d1 : decide ((120 : Int) < ((ls.length : Nat) : Int)) = true := decide_eq_true (by omega)
    clear g1
    go_enter Try.func3, Try.ntmps3
    go_wp2_with fail
    refine (first16_any _).mono ?_
    rintro e w1 ⟨rfl, hb⟩
    go_wp2_with fail
    go_ret
    exact ⟨rfl, hb⟩
  have d1 : decide ((120 : Int) < ((ls.length : Nat) : Int)) = false := decide_eq_false (by omega)
  by_cases g2 : 12 < os.length
  · have d2 : decide ((12 : Int) < ((os.length : Nat) : Int)) = true := decide_eq_true (by omega)
    clear g1 g2
    go_enter Try.func3, Try.ntmps3
    go_wp2_with fail
    refine (first16_any _).mono ?_
    rintro e w1 ⟨rfl, hb⟩
    go_wp2_with fail
    go_ret
    exact ⟨rfl, hb⟩
  have d2 : decide ((12 : Int) < ((os.length : Nat) : Int)) = false := decide_eq_false (by omega)
  have HCF : Hid (∀ V, Below w.heap.size w V → Calls Try.prog 9 #[.slice la ls.length lc, .slice oa os.length oc] V fun e w' => ∃ v cv dv p k b T xs, e = .returned (.tuple #[v, cv, dv, .int .i64 k, .bool b]) ∧ ConfR V w' T v p cv dv xs ∧ ConfE p k b) := fun V hV => conflict_any la lc ls _ os V (HRL.out V hV) (HRO.out V hV) HLI.out HOI.out (by omega) (by omega)
  clear g1 g2
  go_enter Try.func3, Try.ntmps3
  go_wp2_with fail
  refine (first16_any _).mono ?_
  rintro e w1 ⟨rfl, hb⟩
  have HB1 := Lib.hid hb
  clear hb
  go_wp2_with fail
  refine (HCF.out _ HB1.out).mono ?_
  rintro e w2 ⟨v, cv, dv, p, k, b, T, xs, rfl, hC, hE⟩
  obtain ⟨q, rfl⟩ := hC.pt.ptr
  obtain ⟨ca, cc, rfl, _⟩ := hC.rows
  obtain ⟨da, dc, rfl, _⟩ := hC.dec
  have HC := Lib.hid hC
  have HB2 : Hid (Below w.heap.size w w2) := HB1.out.trans (hC.pt.bel.mono HB1.out.size)
  clear hC HCF HRL HRO HLI HOI d1 d2
  rcases hE with ⟨rfl, hst, hlv, i, c, rfl, hkc, hf, hne⟩ | ⟨rfl, _⟩
  · have HFR := Lib.hid (HC.out.pt.use fun S hS => from_any w2 hS (by have := HC.out.len; omega) i c hkc hf hne hst)
    have HST := Lib.hid hst
    have HLV := Lib.hid hlv
    have HTP := Lib.hid (top_last HC.out.pt.wf hlv hst (mem_clsP.2 ⟨i, hkc⟩) hf)
    clear hst hlv hkc hf hne
    go_wp2_with fail
    refine HFR.out.mono ?_
    rintro e w3 ⟨u, r, cl, sv, rfl, hrow, ⟨sa, sn, sc, rfl⟩, hL, hb3⟩
    have HLES := Lib.hid hL
    obtain ⟨bk, hbk⟩ : ∃ bk, topL p r = bk := ⟨_, rfl⟩
    obtain ⟨yl, hyl⟩ : ∃ yl, u :: r = yl := ⟨_, rfl⟩
    rw [hbk, hyl]
    rw [hyl] at hrow
    obtain ⟨sc9, hsc⟩ : ∃ sc9, ((ddL (yl.map fun l => levP p (plc l : Int))).length : Int) = sc9 := ⟨_, rfl⟩
    rw [hsc]
    have HYL := Lib.hid hyl
    have HBK := Lib.hid hbk
    have HSC := Lib.hid hsc
    have hbb : 0 ≤ bk ∧ bk ≤ 5000 := by
      have h1 := topL_zero (p := p) r
      have h2 := topL_le (p := p) r 5000 (by omega) fun l hl => by
        have := (hL.allF.bd HC.out.pt.wf (List.mem_cons_of_mem u hl)).2.2.2.2
        rw [plc_absI]; omega
      omega
    have HAF : Hid (AllF p yl) := by unfold Hid; rw [← hyl]; exact hL.allF
    have hM1 : 1 ≤ yl.length := by rw [← hyl]; simp
    have HMX : Hid (yl.length ≤ 20) := by
      unfold Hid
      rw [← hyl, List.length_cons]
      have hsub : r.map plc ⊆ List.range 13 := fun v hv => by
        obtain ⟨l, hl, e⟩ := List.mem_map.1 hv
        have h1 := HC.out.pt.wf.rgt _ (hL.rst l hl).1
        rw [plc_negate] at h1
        have := HC.out.n
        exact List.mem_range.2 (by omega)
      have := hL.nd.length_le_of_subset hsub
      simp at this
      omega
    clear hyl hbk hsc
    have HLB := Lib.hid (LsB.new (T := T) (bk := bk) (sc := sc9) (sv := .slice sa sn sc) hb3 hrow)
    have hb4 : Below w2.heap.size w2 (w3.alloc (.cells #[cl, .int .i64 bk, .int .i64 sc9, .slice sa sn sc] 29)) := hb3.alloc hb3.size _
    have HPT := Lib.hid (HC.out.pt.more hb4 (U := fun i => T i ∨ NewB w2 (w3.alloc (.cells #[cl, .int .i64 bk, .int .i64 sc9, .slice sa sn sc] 29)) i) fun i hi => hi)
    have HRX := Lib.hid ((HC.out.rows.keep (Kp.below hb4 fun i hi => HC.out.pt.tlt i hi)).sub (U := fun i => T i ∨ NewB w2 (w3.alloc (.cells #[cl, .int .i64 bk, .int .i64 sc9, .slice sa sn sc] 29)) i) fun i hi => .inl hi)
    have HB4 : Hid (Below w.heap.size w (w3.alloc (.cells #[cl, .int .i64 bk, .int .i64 sc9, .slice sa sn sc] 29))) := HB2.out.trans (hb4.mono HB2.out.size)
    obtain ⟨la2, lc2, rfl, hla1, hla2, _⟩ := hrow
    unfold maxLen at hla2
    clear hL hb3 hb4 HFR
    generalize hM : yl.length = M at *
    have HM := Lib.hid hM
    clear hM
    have hMX := HMX.out
    have hm0 : ((M : Int) == 0) = false := by simp; omega
    go_wp2_with fail
    clear hm0
    generalize hw4 : w3.alloc (.cells #[.slice la2 M lc2, .int .i64 bk, .int .i64 sc9, .slice sa sn sc] 29) = w4 at *
    have hw3 : w4.heap.size = w3.heap.size + 1 := by rw [← hw4]; exact Array.size_push _
    have HW3 := Lib.hid hw3
    clear hw4 hw3
    generalize (fun i => T i ∨ NewB w2 w4 i) = U at *
    generalize w3.heap.size = G at *
    have HST0 : Hid ((w4.alloc (.cells #[] 3)).ownsRow w4.heap.size 3 1 (.slice (some ⟨G + 1, 0, none⟩) 0 0) 0 []) := by
      rw [← HW3.out]
      exact ⟨rfl, .inr ⟨w4.heap.size, 0, _, rfl, Nat.le_refl _, heap_alloc_new w4 _, Nat.le_refl _, Nat.zero_le _, rfl, rfl⟩⟩
    have HDL : Hid (∀ j, j < M → ddL ((yl.map fun l => levP p (plc l : Int)).take (j + 1)) = if levP p (absI (yl.getD j 0)) ∈ ddL ((yl.map fun l => levP p (plc l : Int)).take j) then ddL ((yl.map fun l => levP p (plc l : Int)).take j) else ddL ((yl.map fun l => levP p (plc l : Int)).take j) ++ [levP p (absI (yl.getD j 0))]) := fun j hj => by
      have hj' : j < (yl.map fun l => levP p (plc l : Int)).length := by rw [List.length_map, HM.out]; exact hj
      rw [take_snoc _ j hj', ddL_snoc]
      have : (yl.map fun l => levP p (plc l : Int)).getD j 0 = levP p (absI (yl.getD j 0)) := by
        rw [← plc_absI]
        simp [List.getD, show j < yl.length by rw [HM.out]; exact hj]
      rw [this]
    have HML : Hid (∀ j, j < M → mostL p yl (j + 1) = if j = 0 then 0 else max (mostL p yl j) (levP p (absI (yl.getD j 0)))) := fun j hj => mostL_step p yl j (by rw [HM.out]; exact hj)
    have HDN : Hid (∀ j, j ≤ M → (ddL ((yl.map fun l => levP p (plc l : Int)).take j)).length ≤ M) := fun j hj => by
      refine Nat.le_trans (ddL_len _) ?_
      rw [List.length_take, List.length_map, HM.out]; omega
    have HBDL : Hid (∀ j, j < M → (-4000 ≤ yl.getD j 0 ∧ yl.getD j 0 ≤ 4000) ∧ (1 ≤ absI (yl.getD j 0) ∧ absI (yl.getD j 0) ≤ 4000) ∧ valP p (yl.getD j 0) = 2 ∧ 0 ≤ levP p (absI (yl.getD j 0)) ∧ levP p (absI (yl.getD j 0)) ≤ 4001) := fun j hj => HAF.out.bd HPT.out.wf (getD_mem (by rw [HM.out]; exact hj))
    go_loopw [13, 14, 15, 16] (fun lv mv iv _ W => ∃ (j : Nat), j ≤ M ∧ iv = .int .i64 (j : Int) ∧ W.ownsRow w4.heap.size 3 1 lv (ddL ((yl.map fun l => levP p (plc l : Int)).take j)).length ((ddL ((yl.map fun l => levP p (plc l : Int)).take j)).map (Value.int .i64)) ∧ mv = .int .i64 (mostL p yl j) ∧ Below w4.heap.size w4 W) (fun _ _ iv _ _ => M - (intOf iv).toNat)
    case atStart => exact ⟨0, Nat.zero_le _, rfl, HST0.out, rfl, (Below.refl _ _).alloc (Nat.le_refl _) _⟩
    case round =>
      obtain ⟨j, hj, rfl, hown, rfl, hbW⟩ := hrel
      have HBW := Lib.hid hbW
      have HPW := Lib.hid (HPT.out.keep hbW)
      have HLW := Lib.hid (HLB.out.keep (Kp.below hbW fun i hi => HPT.out.tlt i hi))
      have c0 := HLW.out.c0
      obtain ⟨a9, c9, e9, _, _, hx9⟩ := HLW.out.row
      injection e9 with e91 e92 e93
      subst e91; subst e93
      clear e92
      obtain ⟨b, off, ha, hbl, _, hcell⟩ := hx9.resolve_left (by rw [HM.out]; omega)
      subst ha
      have hown2 := Lib.hid hown
      have hsz := hbW.size
      have hdn := HDN.out j hj
      obtain ⟨lva, lvc, rfl, hlv1, hlv2⟩ := own_shape hown
      unfold maxLen at hlv2
      clear hbW hown hx9
      by_cases hlt : j < M
      · as_aux_lemma =>
        have y0 := hcell j (by rw [HM.out]; exact hlt)
        obtain ⟨⟨v1, v2⟩, ⟨v3, v4⟩, v5, v6, v7⟩ := HBDL.out j hlt
        have hdl := HDL.out j hlt
        have hml := HML.out j hlt
        have HVV := Lib.hid (HPW.out.use fun S hS => pval_any wr hS (yl.getD j 0) (by omega) (by omega))
        rw [v5] at HVV
        have HAB := Lib.hid (fun V => abs_any (yl.getD j 0) V (by omega) (by omega))
        have HLO := Lib.hid (HPW.out.use fun S hS => plev_any wr hS (absI (yl.getD j 0)) (by omega) (by omega))
        have HHA := Lib.hid (fun V (hV : Row V (.slice lva (ddL ((yl.map fun l => levP p (plc l : Int)).take j)).length lvc) (ddL ((yl.map fun l => levP p (plc l : Int)).take j))) => has_any _ _ (levP p (absI (yl.getD j 0))) V hV)
        have HRW := Lib.hid (own_row hown2.out)
        clear hcell v5
        obtain ⟨D1, hD1⟩ : ∃ D1, ddL ((yl.map fun l => levP p (plc l : Int)).take (j + 1)) = D1 := ⟨_, rfl⟩
        obtain ⟨m1, hm1⟩ : ∃ m1, mostL p yl (j + 1) = m1 := ⟨_, rfl⟩
        rw [hD1] at hdl
        rw [hm1] at hml
        have HD1 := Lib.hid hD1
        have HM1 := Lib.hid hm1
        clear hD1 hm1
        have hm00 : j = 0 → mostL p yl j = 0 := fun h => by rw [h]; rfl
        generalize ddL ((yl.map fun l => levP p (plc l : Int)).take j) = D at *
        generalize yl.getD j 0 = y at *
        generalize absI y = al at *
        generalize levP p al = lv at *
        generalize mostL p yl j = m0 at *
        have HM00 := Lib.hid hm00
        clear hm00
        have HML2 := Lib.hid hml
        have HDL2 := Lib.hid hdl
        have HHB := Lib.hid (HHA.out wr HRW.out)
        clear hml hdl HHA v3 v4
        by_cases hj0 : 0 < j
        · have e1 : decide ((0 : Int) < (j : Int)) = true := decide_eq_true (by omega)
          have e2 : decide (0 < j) = true := decide_eq_true (by omega)
          have e3 : ¬ j = 0 := by omega
          have HJ0 := Lib.hid e3
          clear e3 hj0
          by_cases hin : lv ∈ D
          · have HMM := Lib.hid (HML2.out.trans (if_neg HJ0.out))
            have HDD := Lib.hid (HDL2.out.trans (if_pos hin))
            rw [decide_eq_true hin] at HHB
            clear hin
            go_wp2_with fail
            refine HVV.out.mono ?_
            rintro e w' ⟨rfl, rfl⟩
            go_wp2_with fail
            refine (HAB.out _).mono ?_
            rintro e w' ⟨rfl, rfl⟩
            go_wp2_with fail
            refine HLO.out.mono ?_
            rintro e w' ⟨rfl, rfl⟩
            go_wp2_with fail
            refine HHB.out.mono ?_
            rintro e w' ⟨rfl, rfl⟩
            go_wp2_with fail
            go_roundw
            case rel => exact ⟨j + 1, by omega, by go_num, by rw [HD1.out, HDD.out]; exact hown2.out, by rw [HM1.out, HMM.out], HBW.out⟩
            case measure => go_light; simp [intOf]; omega
          · have HMM := Lib.hid (HML2.out.trans (if_neg HJ0.out))
            have HDD := Lib.hid (HDL2.out.trans (if_neg hin))
            rw [decide_eq_false hin] at HHB
            clear hin
            go_wp2_with fail
            refine HVV.out.mono ?_
            rintro e w' ⟨rfl, rfl⟩
            go_wp2_with fail
            refine (HAB.out _).mono ?_
            rintro e w' ⟨rfl, rfl⟩
            go_wp2_with fail
            refine HLO.out.mono ?_
            rintro e w' ⟨rfl, rfl⟩
            go_wp2_with fail
            refine HHB.out.mono ?_
            rintro e w' ⟨rfl, rfl⟩
            go_wp2_with (at_builtin; refine wpList_app1 rfl _ _ rfl wr w4.heap.size _ D.length D lv hown2.out hsz (by omega) rfl rfl ?_; intro lv9 w9 ho9 ha9)
            go_roundw
            case rel => exact ⟨j + 1, by omega, by go_num, by rw [HD1.out, HDD.out, List.length_append]; exact ho9, by rw [HM1.out, HMM.out], HBW.out.trans ha9.below⟩
            case measure => go_light; simp [intOf]; omega
        · have e1 : decide ((0 : Int) < (j : Int)) = false := decide_eq_false (by omega)
          have e2 : decide (0 < j) = false := decide_eq_false (by omega)
          have e3 : j = 0 := by omega
          have HJ0 := Lib.hid e3
          clear e3 hj0
          by_cases hin : lv ∈ D
          · have HMM := Lib.hid (HML2.out.trans (if_pos HJ0.out))
            have HDD := Lib.hid (HDL2.out.trans (if_pos hin))
            rw [decide_eq_true hin] at HHB
            clear hin
            go_wp2_with fail
            refine HVV.out.mono ?_
            rintro e w' ⟨rfl, rfl⟩
            go_wp2_with fail
            refine (HAB.out _).mono ?_
            rintro e w' ⟨rfl, rfl⟩
            go_wp2_with fail
            refine HLO.out.mono ?_
            rintro e w' ⟨rfl, rfl⟩
            go_wp2_with fail
            refine HHB.out.mono ?_
            rintro e w' ⟨rfl, rfl⟩
            go_wp2_with fail
            go_roundw
            case rel => exact ⟨j + 1, by omega, by go_num, by rw [HD1.out, HDD.out]; exact hown2.out, by rw [HM1.out, HMM.out, HM00.out HJ0.out], HBW.out⟩
            case measure => go_light; simp [intOf]; omega
          · have HMM := Lib.hid (HML2.out.trans (if_pos HJ0.out))
            have HDD := Lib.hid (HDL2.out.trans (if_neg hin))
            rw [decide_eq_false hin] at HHB
            clear hin
            go_wp2_with fail
            refine HVV.out.mono ?_
            rintro e w' ⟨rfl, rfl⟩
            go_wp2_with fail
            refine (HAB.out _).mono ?_
            rintro e w' ⟨rfl, rfl⟩
            go_wp2_with fail
            refine HLO.out.mono ?_
            rintro e w' ⟨rfl, rfl⟩
            go_wp2_with fail
            refine HHB.out.mono ?_
            rintro e w' ⟨rfl, rfl⟩
            go_wp2_with (at_builtin; refine wpList_app1 rfl _ _ rfl wr w4.heap.size _ D.length D lv hown2.out hsz (by omega) rfl rfl ?_; intro lv9 w9 ho9 ha9)
            go_roundw
            case rel => exact ⟨j + 1, by omega, by go_num, by rw [HD1.out, HDD.out, List.length_append]; exact ho9, by rw [HM1.out, HMM.out, HM00.out HJ0.out], HBW.out.trans ha9.below⟩
            case measure => go_light; simp [intOf]; omega
      · as_aux_lemma =>
        have e1 : decide ((j : Int) < (M : Int)) = false := decide_eq_false (by omega)
        have e2 : decide (j < M) = false := decide_eq_false hlt
        have hjM : j = M := by omega
        have hDall : ddL ((yl.map fun l => levP p (plc l : Int)).take j) = ddL (yl.map fun l => levP p (plc l : Int)) := by rw [hjM, List.take_of_length_le (by rw [List.length_map, HM.out]; exact Nat.le_refl _)]
        have hmall : mostL p yl j = bk := by
          unfold mostL
          rw [hjM, List.take_of_length_le (by rw [HM.out]; exact Nat.le_refl _), ← HYL.out, List.drop_one, List.tail_cons]
          exact HBK.out
        rw [hDall] at hown2 hdn hlv1 ⊢
        rw [hmall]
        have hsc9 : ((ddL (yl.map fun l => levP p (plc l : Int))).length : Int) = sc9 := HSC.out
        generalize ddL (yl.map fun l => levP p (plc l : Int)) = D at *
        have y0 := hcell 0 (by rw [HM.out]; omega)
        rw [Nat.add_zero] at y0
        have hy0 : yl.getD 0 0 = u := by rw [← HYL.out]; rfl
        rw [hy0] at y0
        have hub := HBDL.out 0 (by omega)
        rw [hy0] at hub
        obtain ⟨⟨v1, v2⟩, ⟨v3, v4⟩, v5, v6, v7⟩ := hub
        have hul : levP p (absI u) = (p.st.length : Int) := by rw [← plc_absI, HLES.out.top, HTP.out]
        have hbkl : bk < (p.st.length : Int) := by
          have h1 := HLES.out.topr HTP.out
          have h2 : 0 < p.st.length := List.length_pos_iff.2 HST.out
          have h3 := HBK.out
          omega
        have HAB := Lib.hid (fun V => abs_any u V (by omega) (by omega))
        have HLO := Lib.hid (HPW.out.use fun S hS => plev_any wr hS (absI u) (by omega) (by omega))
        rw [hul] at HLO
        have HLL := Lib.hid (HPW.out.use fun S hS => plvl_any wr hS)
        have c1 := HLW.out.c1
        have c2 := HLW.out.c2
        have hGl := HPW.out.tlt G HLW.out.uG
        generalize absI u = au at *
        have HSL : Hid (bk < (p.st.length : Int)) := hbkl
        generalize (p.st.length : Int) = sl at HLO HLL hbkl
        have d1 : (sl != sl) = false := by simp
        have d2 : decide (sl ≤ bk) = false := decide_eq_false (by omega)
        have d3 : (bk != bk) = false := by simp
        have d4 : (sc9 != (D.length : Int)) = false := by rw [hsc9]; simp
        have hKr : Kp U w4 wr := Kp.below HBW.out fun i hi => HPT.out.tlt i hi
        have hbs : (wr.alloc (.cells #[.int .i64 12, .slice ca xs.length cc] 37)).heap.size = wr.heap.size + 1 := Array.size_push _
        have hbA : Below wr.heap.size wr (wr.alloc (.cells #[.int .i64 12, .slice ca xs.length cc] 37)) := (Below.refl _ _).alloc (Nat.le_refl _) _
        have HIM : Hid (Calls Try.prog 16 #[.pointer (some ⟨wr.heap.size, 0, none⟩), .slice (some ⟨b, off, none⟩) M lc2] (wr.alloc (.cells #[.int .i64 12, .slice ca xs.length cc] 37)) fun e w' => e = .returned (.bool true) ∧ Below (wr.alloc (.cells #[.int .i64 12, .slice ca xs.length cc] 37)).heap.size (wr.alloc (.cells #[.int .i64 12, .slice ca xs.length cc] 37)) w') := by
          obtain ⟨a5, c5, e5, hr5⟩ := ((HRX.out.keep hKr).keep (Kp.below hbA fun i hi => HPW.out.tlt i hi)).rows
          injection e5 with e51 e52 e53
          subst e51; subst e53
          refine implied_any wr.heap.size 12 ca cc xs (.slice (some ⟨b, off, none⟩) M lc2) yl (wr.alloc (.cells #[.int .i64 12, .slice ca xs.length cc] 37)) (by rw [hbs]; exact Nat.lt_succ_self _) ?_ ?_ (by decide) (by decide) hr5 ((HLW.out.row.row).keep hbA) (fun c' hc' l hl => ?_) (fun l hl => ?_) (by rw [HM.out]; omega) ?_
          · unfold World.cell?; rw [show (wr.alloc (.cells #[.int .i64 12, .slice ca xs.length cc] 37)).heap[wr.heap.size]? = _ from heap_alloc_new wr _]; rfl
          · unfold World.cell?; rw [show (wr.alloc (.cells #[.int .i64 12, .slice ca xs.length cc] 37)).heap[wr.heap.size]? = _ from heap_alloc_new wr _]; rfl
          · have := HC.out.rgt c' hc' l hl
            omega
          · have h1 := HPT.out.wf.rgt _ (HAF.out l hl)
            rw [plc_negate, HC.out.n] at h1
            omega
          · rw [← HYL.out]
            exact (HC.out.same.wrg (fun l => Iff.rfl)).2 HLES.out.wrg
        have HB5 : Hid (∀ V, Below (wr.alloc (.cells #[.int .i64 12, .slice ca xs.length cc] 37)).heap.size (wr.alloc (.cells #[.int .i64 12, .slice ca xs.length cc] 37)) V → PT w1 U (.pointer (some ⟨q, 0, none⟩)) p V ∧ LsB V U G (.slice (some ⟨b, off, none⟩) M lc2) bk sc9 (.slice sa sn sc) yl) := fun V hV => by
          have h1 := HPW.out.keep hbA
          exact ⟨h1.keep hV, (HLW.out.keep (Kp.below hbA fun i hi => HPW.out.tlt i hi)).keep (Kp.below hV fun i hi => h1.tlt i hi)⟩
        have HWP := Lib.hid HPT.out.wf
        have HYC : Hid (∀ V, LsB V U G (.slice (some ⟨b, off, none⟩) M lc2) bk sc9 (.slice sa sn sc) yl → V.cell? ⟨b, off, none⟩ = some (.int .i64 u)) := fun V hV => by
          obtain ⟨a', c', e', _, _, h3⟩ := hV.row
          injection e' with f1 f2 f3
          subst f1
          obtain ⟨b', o', e2, _, _, h4⟩ := h3.resolve_left (by rw [HM.out]; omega)
          injection e2 with e2
          injection e2 with e21 e22
          subst e21; subst e22
          have := h4 0 (by rw [HM.out]; omega)
          rw [Nat.add_zero] at this
          rw [this, ← HYL.out]; rfl
        have HYI : Hid (InW yl) := fun l hl => by
          have := (HAF.out.bd HWP.out hl).1; omega
        have HMM : Hid (yl.length ≤ 1000) := by unfold Hid; rw [HM.out]; omega
        clear hKr hbs hbA
        clear hjM hDall hmall hy0 hul hbkl hcell hlt hsc9 v3 v4 v5 v6 v7
        go_wp2_with fail
        refine (HAB.out _).mono ?_
        rintro e w' ⟨rfl, rfl⟩
        go_wp2_with fail
        refine HLO.out.mono ?_
        rintro e w' ⟨rfl, rfl⟩
        go_wp2_with fail
        refine HLL.out.mono ?_
        rintro e w' ⟨rfl, rfl⟩
        go_wp2_with fail
        refine HLL.out.mono ?_
        rintro e w' ⟨rfl, rfl⟩
        go_wp2_with fail
        refine HIM.out.mono ?_
        rintro e w5 ⟨rfl, hb5⟩
        obtain ⟨hP5, hL5⟩ := HB5.out _ hb5
        have c15 := hL5.c1
        have HP5 := Lib.hid hP5
        have HL5 := Lib.hid hL5
        have HBK5 := Lib.hid (hP5.use fun _ _ => pt_back hP5 bk (by omega) (by omega))
        clear hP5 hL5 hb5 HIM HB5 c0 c1 c2 y0 HLW HPW
        go_wp2_with fail
        refine HBK5.out.mono ?_
        rintro e w6 ⟨rfl, hP6, hK6⟩
        have HP6 := Lib.hid hP6
        have HL6 := Lib.hid (HL5.out.keep hK6)
        have c06 := HL6.out.c0
        have hbn : (backP p bk).n = p.n ∧ (backP p bk).cl = p.cl := by unfold backP; split <;> exact ⟨rfl, rfl⟩
        have HAD := Lib.hid (pt_add hP6 (.slice (some ⟨b, off, none⟩) M lc2) yl HL6.out.row.row HYI.out HMM.out (by rw [hbn.2]; have := HC.out.len; omega))
        have HOK : Hid (addOk (backP p bk).n yl = true) := by
          unfold Hid
          rw [← HYL.out]
          exact HLES.out.add HWP.out hbn.1
        have HBN := Lib.hid hbn
        clear hP6 hK6 HBK5 HP5 HL5 c15 hbn
        go_wp2_with fail
        refine HAD.out.mono ?_
        rintro e w7 ⟨y7, b7, p7, hAR, hy7, rfl, hP7, hK7⟩
        obtain ⟨rfl, _, cn, hcn, rfl⟩ | ⟨_, h0, _⟩ := hAR
        · have hyy := hy7 rfl
          subst hyy
          have HL7 := Lib.hid (HL6.out.keep hK7)
          have HPR := Lib.hid (pt_prop hP7 (by show ((backP p bk).cl ++ [some cn]).length ≤ 1000; rw [List.length_append, HBN.out.2]; have := HC.out.len; simp; omega))
          have HCN := Lib.hid hcn
          clear hP7 hK7 hy7 hcn HAD HP6 HL6 c06
          go_wp2_with fail
          refine HPR.out.mono ?_
          rintro e w8 ⟨x8, p8, hR8, rfl, hP8, hK8⟩
          have HL8 := Lib.hid (HL7.out.keep hK8)
          have c08 := HL8.out.c0
          have y8 := HYC.out w8 HL8.out
          have hu8 : u ∈ p8.tr := by
            have hm := HCN.out
            rw [← HYL.out] at hm
            rw [← HBK.out] at hR8
            obtain ⟨s8, m8, e8, _⟩ := HLES.out.mend HWP.out HLV.out HTP.out HST.out hm hR8
            rw [e8]; simp
          have HV8 := Lib.hid (hP8.use fun S hS => pval_any w8 hS u (by omega) (by omega))
          rw [hP8.wf.val_true.2 hu8] at HV8
          have HBE : Hid (Below w.heap.size w w8) := HB1.out.trans (hP8.bel.mono HB1.out.size)
          have d8 : decide ((0 : Int) ≤ ((backP p bk).cl.length : Int)) = true := decide_eq_true (by omega)
          clear hR8 hP8 hK8 hu8
          go_wp2_with fail
          refine HV8.out.mono ?_
          rintro e w9 ⟨rfl, rfl⟩
          go_wp2_with fail
          go_ret
          exact ⟨rfl, HBE.out⟩
        · exact absurd (h0.symm.trans HOK.out) (by decide)
  · go_wp2_with fail
    go_ret
    exact ⟨rfl, HB2.out⟩
end Go.Proofs.Ytjlmooimdogmjaa
