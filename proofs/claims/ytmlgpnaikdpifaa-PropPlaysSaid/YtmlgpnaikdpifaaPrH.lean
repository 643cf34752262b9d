/- The contracts of skolemlaw15.holds, wrong and reasons: true, where the prop lies in memory as 'PrS' says, and its clauses and decisions are those told. Conditions: 12 variables; the rows read as clauses and decisions. -/
import Derived.Test.YtmlgpnaikdpifaaPrO
import Derived.Test.YtmlgpnaikdpifaaPrL
import Derived.Test.YtmlgpnaikdpifaaPrN
import Derived.Test.YtmlgpnaikdpifaaClo
set_option linter.unusedVariables false
set_option linter.unusedSimpArgs false
namespace Go.Proofs.Ytmlgpnaikdpifaa
open Go.RowKit

set_option maxHeartbeats 2000000 in
theorem lawHolds_any {v : Value} {S : List Nat} {p : Pr} (w : World) (hs : PrS w v S p) (a : Option Addr) (cap : Nat) (xss : List (List Int)) (u : Value) (ds : List Int) (x : Int) (hr : RowsAt w a cap xss) (hu : Row w u ds)
    (hC : RgtC 13 xss) (hD : RgtD 13 ds) (hsaid : SaidP p x) (hsame : SameC xss (clsP p)) (hds : ds = decP p) :
    Calls Try.prog 15 #[v, .slice a xss.length cap, u, .int .i64 x] w fun e w' => e = .returned (.bool true) ∧ Below w.heap.size w w' := by
  have hl13 : (newV 12).length = 13 := by rw [newV_len]; decide
  have HCL := Lib.hid (clo_any 12 a cap xss u ds w hr hu (by decide) (by decide) (by rw [hl13]; exact hC) (by rw [hl13]; exact hD))
  have HK : Hid (∀ W, Below w.heap.size w W → PrS W v S p) := fun W hW => hs.below hW
  have HTI : Hid (InW p.tr ∧ p.tr.length < 1000000000) := ⟨hs.wf.tr_in, by have := hs.wf.tr_len; have := hs.wf.n; omega⟩
  have hw : Wrg xss ds ↔ Wrg (clsP p) (decP p) := hsame.wrg fun l => by rw [hds]
  have hf : ∀ l, Fol xss ds l ↔ Fol (clsP p) (decP p) l := hsame.fol fun l => by rw [hds]
  have hwf := hs.wf
  have HL13 := Lib.hid hl13
  have HC := Lib.hid hC
  obtain ⟨ua, uc, rfl, _⟩ := hu
  obtain ⟨q, rfl⟩ := hs.ptr
  clear hr hs hD hds hl13 hC
  go_enter Try.func15, Try.ntmps15
  go_wp2_with fail
  refine HCL.out.mono ?_
  rintro e w1 ⟨hres, hb1⟩
  have HB1 := Lib.hid hb1
  have HTR := Lib.hid (ptrl_any w1 (HK.out _ hb1))
  clear hb1 HCL
  by_cases hx : x < 0
  · have d1 : decide (x < 0) = true := decide_eq_true hx
    have hcl := hsaid.yes hx
    rcases hres with ⟨o, V, rfl, hV, hVl, hown⟩ | ⟨rfl, hwr⟩
    · have HKR := Lib.hid (own_row hown)
      have HKN : Hid (∀ l, Nsd p.tr l → l = knownL V) := fun l hl => ltQ_uniq _ _ hl.pair ((knownL_pair V).imp fun h => .inl h) fun z => by
        rw [hl.mem, mem_knownL hV.vals, hV.iff (by rw [hVl, HL13.out]; exact HC.out), hf, hwf.iff hcl]
      obtain ⟨ao, co, rfl, _⟩ := own_row hown
      clear hV hVl hown hcl hwf hf hw hsaid hsame hx
      go_wp2_with fail
      refine HTR.out.mono ?_
      rintro e w2 ⟨t, rfl, ht, hb2⟩
      have HB2 := Lib.hid (HB1.out.trans (hb2.mono HB1.out.size))
      have HKR2 := Lib.hid (HKR.out.keep hb2)
      have HSO := Lib.hid (sorted_any t _ w2 ht HTI.out.1 HTI.out.2)
      obtain ⟨at', ct, rfl, _⟩ := ht
      clear hb2 HKR HTR
      go_wp2_with fail
      refine HSO.out.mono ?_
      rintro e w3 ⟨s, l, rfl, hn, hrs, hb3⟩
      have HB3 := Lib.hid (HB2.out.trans (hb3.mono HB2.out.size))
      have HSI := Lib.hid (sameInts_any s _ l _ w3 hrs (HKR2.out.keep hb3))
      rw [decide_eq_true (HKN.out l hn)] at HSI
      obtain ⟨as', cs, rfl, _⟩ := hrs
      clear hb3 hn HSO
      go_wp2_with fail
      refine HSI.out.mono ?_
      rintro e w4 ⟨rfl, hd⟩
      have HB4 := Lib.hid (HB3.out.trans ((below_draws hd).mono HB3.out.size))
      clear hd
      go_wp2_with fail
      go_ret
      exact ⟨rfl, HB4.out⟩
    · exact (hwf.right hcl (hw.1 hwr)).elim
  · have d1 : decide (x < 0) = false := decide_eq_false hx
    rcases hres with ⟨o, V, rfl, hV, hVl, hown⟩ | ⟨rfl, hwr⟩
    · exact (hV.right (by rw [hVl, HL13.out]; exact HC.out) (hw.2 (hsaid.no (by omega)))).elim
    · clear hw hf hsaid hsame hwf hwr hx
      go_wp2_with fail
      refine HTR.out.mono ?_
      rintro e w2 ⟨t, rfl, ht, hb2⟩
      have HB2 := Lib.hid (HB1.out.trans (hb2.mono HB1.out.size))
      obtain ⟨at', ct, rfl, _⟩ := ht
      clear hb2
      go_wp2_with fail
      go_ret
      exact ⟨rfl, HB2.out⟩

set_option maxHeartbeats 2000000 in
theorem wrong_any {v : Value} {S : List Nat} {p : Pr} (w : World) (hs : PrS w v S p) (k : Nat) (c : List Int) (hk : (k : Int) ≤ 9223372036854775807) (hc : p.cl.getD k none = some c) (hf : ∀ l ∈ c, -l ∈ p.tr) :
    Calls Try.prog 25 #[v, .int .i64 (k : Int)] w fun e w' => e = .returned (.bool true) ∧ Below w.heap.size w w' := by
  have HCL := Lib.hid (pcls_any w hs (k : Int) (by omega) hk)
  rw [if_neg (by omega), Int.toNat_natCast, hc, Option.getD_some] at HCL
  have HK : Hid (∀ W, Below w.heap.size w W → PrS W v S p) := fun W hW => hs.below hW
  have hin := (hs.wf.cls c (mem_clsP.2 ⟨k, hc⟩)).2
  have hn := hs.wf.n
  have HV : Hid (∀ l ∈ c, valP p l = 2 ∧ -9223372036854775807 ≤ l ∧ l ≤ 9223372036854775807) := fun l hl => by
    have h1 := (hin l hl).1
    have h2 := plc_absI l
    unfold absI at h2
    refine ⟨hs.wf.val_false.2 (hf l hl), ?_, ?_⟩ <;> split at h2 <;> omega
  obtain ⟨q, rfl⟩ := hs.ptr
  clear hs hc hf hin hn
  go_enter Try.func25, Try.ntmps25
  go_wp2_with fail
  refine HCL.out.mono ?_
  rintro e w1 ⟨u, c', rfl, hu, hp, hb⟩
  have HB := Lib.hid hb
  have HP := Lib.hid hp
  obtain ⟨a, cc, rfl, hu1, hu2, hu3⟩ := hu
  unfold maxLen at hu2
  have HX := Lib.hid hu3
  clear hu3 hb hp HCL
  generalize hL : c'.length = L at *
  have HL := Lib.hid hL; clear hL
  go_wp2_with fail
  go_loopw [6] (fun i W => ∃ j : Nat, j ≤ L ∧ i = .int .i64 (j : Int) ∧ W = w1) (fun i _ => L - (intOf i).toNat)
  case atStart => exact ⟨0, Nat.zero_le _, rfl, rfl⟩
  case round =>
    obtain ⟨j, hj, rfl, rfl⟩ := hrel
    by_cases hlt : j < L
    · obtain ⟨b, off, ha, hbl, hcell⟩ := HX.out.resolve_left (by omega)
      subst ha
      have y0 := hcell j hlt
      have hv := HV.out (c'.getD j 0) (HP.out.mem_iff.1 (getD_mem (by rw [HL.out]; exact hlt)))
      clear hcell
      generalize c'.getD j 0 = l at *
      have HVV := Lib.hid (pval_any wr (HK.out _ HB.out) l hv.2.1 hv.2.2)
      rw [hv.1] at HVV
      clear hv
      go_wp2_with fail
      refine HVV.out.mono ?_
      rintro e w2 ⟨rfl, rfl⟩
      go_wp2_with fail
      go_roundw
      case rel => exact ⟨j + 1, by omega, by go_num, by first | trivial | rfl⟩
      case measure => go_light; simp [intOf]; omega
    · have e1 : decide ((j : Int) < (L : Int)) = false := decide_eq_false (by omega)
      have e2 : decide (j < L) = false := decide_eq_false hlt
      clear hlt
      go_wp2_with fail
      go_ret
      exact ⟨rfl, HB.out⟩

theorem row_take {w : World} {a : Option Addr} {n c : Nat} {xs : List Int} (h : Row w (.slice a n c) xs) {j : Nat} (hj : j ≤ xs.length) : Row w (.slice a j c) (xs.take j) := by
  obtain ⟨a', c', e, h1, h2, h3⟩ := h
  injection e with e1 e2 e3
  subst e1; subst e3
  have hl : (xs.take j).length = j := by simp; omega
  refine ⟨a, c, by rw [hl], by omega, h2, ?_⟩
  rw [hl]
  rcases h3 with h3 | ⟨b, off, e, h4, h5⟩
  · left; omega
  · right
    refine ⟨b, off, e, h4, fun i hi => ?_⟩
    rw [h5 i (by omega)]
    simp [List.getD, List.getElem?_take, hi]
theorem PrW.rea {p : Pr} (h : PrW p) {j : Nat} (hj : j < p.tr.length) : reaP p (absI (p.tr.getD j 0)) = p.rs.getD j (-1) := by
  unfold reaP
  have e : (absI (p.tr.getD j 0)).toNat = plc (p.tr.getD j 0) := rfl
  rw [e, h.pos hj]

set_option maxRecDepth 4000 in
set_option maxHeartbeats 4000000 in
theorem reasons_any {v : Value} {S : List Nat} {p : Pr} (w : World) (hs : PrS w v S p) (u : Value) (ds : List Int) (hu : Row w u ds) (hds : ds = decP p) (hcl : p.cl.length ≤ 1000) :
    Calls Try.prog 26 #[v, u] w fun e w' => e = .returned (.bool true) ∧ Below w.heap.size w w' := by
  have HTR := Lib.hid (ptrl_any w hs)
  have HK : Hid (∀ W, Below w.heap.size w W → PrS W v S p) := fun W hW => hs.below hW
  have hwf := hs.wf
  have HIN : Hid (∀ l ∈ p.tr, -9223372036854775807 ≤ l ∧ l ≤ 9223372036854775807 ∧ 1 ≤ absI l ∧ absI l ≤ 4000) := fun l hl => by
    have h1 := hwf.rgt l hl
    have h2 := plc_absI l
    have h3 := hwf.n
    have h4 : absI l = l ∨ absI l = -l := by unfold absI; split <;> simp
    omega
  have HRE : Hid (∀ j, j < p.tr.length → reaP p (absI (p.tr.getD j 0)) = p.rs.getD j (-1)) := fun j hj => hwf.rea hj
  have HDE : Hid (∀ j, j < p.tr.length → j ∈ p.st → p.rs.getD j (-1) = -1 ∧ p.tr.getD j 0 ∈ ds) := fun j hj hst => ⟨(hwf.dec j hj).2 hst, by rw [hds]; exact mem_decP.2 ⟨j, hst, rfl⟩⟩
  have HRS : Hid (∀ j, j < p.tr.length → j ∉ p.st → ∃ (k : Nat) (c : List Int), k ≤ 1000 ∧ p.rs.getD j (-1) = (k : Int) ∧ p.cl.getD k none = some c ∧ p.tr.getD j 0 ∈ c ∧ (∀ l ∈ c, l ≠ p.tr.getD j 0 → -l ∈ p.tr.take j) ∧ ∀ l ∈ c, -9223372036854775807 ≤ l ∧ l ≤ 9223372036854775807) := fun j hj hst => by
    obtain ⟨k, c, h1, h2, h3, h4⟩ := hwf.rsn j hj hst
    refine ⟨k, c, ?_, h1, h2, h3, h4, fun l hl => ?_⟩
    · have : k < p.cl.length := by
        rcases Nat.lt_or_ge k p.cl.length with h | h
        · exact h
        · simp [List.getD, List.getElem?_eq_none h] at h2
      omega
    · have h5 := (hwf.cls c (mem_clsP.2 ⟨k, h2⟩)).2 l hl
      have h6 := plc_absI l
      have h7 := hwf.n
      have h8 : absI l = l ∨ absI l = -l := by unfold absI; split <;> simp
      omega
  have HHD : Hid (∀ (W : World) (l : Int), Below w.heap.size w W → l ∈ ds → Calls Try.prog 32 #[u, .int .i64 l] W fun e w' => e = .returned (.bool true) ∧ W = w') := fun W l hW hl => by
    have := has_any u ds l W (hu.keep hW)
    rwa [decide_eq_true hl] at this
  obtain ⟨q, rfl⟩ := hs.ptr
  obtain ⟨ua, uc, rfl, _⟩ := hu
  clear hs hwf hcl hds
  go_enter Try.func26, Try.ntmps26
  go_wp2_with fail
  refine HTR.out.mono ?_
  rintro e w1 ⟨t, rfl, ht, hb⟩
  have HB := Lib.hid hb
  have HT := Lib.hid ht
  obtain ⟨ta, tc, rfl, ht1, ht2, ht3⟩ := ht
  unfold maxLen at ht2
  have HX := Lib.hid ht3
  clear ht3 hb HTR
  generalize hL : p.tr.length = L at *
  have HL := Lib.hid hL; clear hL
  go_wp2_with fail
  go_loopw [6, 7, 8, 9] (fun i _ _ _ W => ∃ j : Nat, j ≤ L ∧ i = .int .i64 (j : Int) ∧ Below w1.heap.size w1 W) (fun i _ _ _ _ => L - (intOf i).toNat)
  case atStart => exact ⟨0, Nat.zero_le _, rfl, Below.refl _ _⟩
  case round =>
    obtain ⟨j, hj, rfl, hb1⟩ := hrel
    have HB1 := Lib.hid hb1
    have HBW := Lib.hid (HB.out.trans (hb1.mono HB.out.size))
    clear hb1
    by_cases hlt : j < L
    · obtain ⟨b, off, ha, hbl, hcell⟩ := HX.out.resolve_left (by omega)
      subst ha
      have y0 := (HB1.out.cell (p := ⟨b, off + j, none⟩) hbl).trans (hcell j hlt)
      have hlb := HIN.out (p.tr.getD j 0) (getD_mem (by rw [HL.out]; exact hlt))
      have hre := HRE.out j hlt
      have hde := HDE.out j hlt
      have hrs := HRS.out j hlt
      have HYW : Hid (∀ W, Below w1.heap.size w1 W → W.cell? ⟨b, off + j, none⟩ = some (.int .i64 (p.tr.getD j 0))) := fun W hW => (hW.cell (p := ⟨b, off + j, none⟩) hbl).trans (hcell j hlt)
      clear hcell
      generalize p.tr.getD j 0 = l at *
      generalize p.rs.getD j (-1) = rr at *
      have HAB := Lib.hid (abs_any l wr hlb.1 hlb.2.1)
      have HRA := Lib.hid (prea_any wr (HK.out _ HBW.out) (absI l) (by omega) (by omega))
      rw [hre] at HRA
      have hl1 := hlb.1
      have hl2 := hlb.2.1
      clear hre hlb
      generalize absI l = al at *
      by_cases hst : j ∈ p.st
      · obtain ⟨rfl, hld⟩ := hde hst
        have HHS := Lib.hid (HHD.out wr l HBW.out hld)
        clear hde hrs hst hld
        go_wp2_with fail
        refine HAB.out.mono ?_
        rintro e w2 ⟨rfl, rfl⟩
        go_wp2_with fail
        refine HRA.out.mono ?_
        rintro e w2 ⟨rfl, rfl⟩
        go_wp2_with fail
        refine HHS.out.mono ?_
        rintro e w2 ⟨rfl, rfl⟩
        go_wp2_with fail
        go_roundw
        case rel => exact ⟨j + 1, by omega, by go_num, HB1.out⟩
        case measure => go_light; simp [intOf]; omega
      · obtain ⟨k, c, hk, rfl, hc, hlc, hneg, hcb⟩ := hrs hst
        have HCS := Lib.hid (pcls_any wr (HK.out _ HBW.out) (k : Int) (by omega) (by omega))
        rw [if_neg (by omega), Int.toNat_natCast, hc, Option.getD_some] at HCS
        have HLC := Lib.hid hlc
        have HNG := Lib.hid hneg
        have HCB := Lib.hid hcb
        have hk0 : decide ((k : Int) < 0) = false := decide_eq_false (by omega)
        clear hde hrs hst hc hlc hneg hcb
        go_wp2_with fail
        refine HAB.out.mono ?_
        rintro e w2 ⟨rfl, rfl⟩
        go_wp2_with fail
        refine HRA.out.mono ?_
        rintro e w2 ⟨rfl, rfl⟩
        go_wp2_with fail
        refine HCS.out.mono ?_
        rintro e w3 ⟨cu, c', rfl, hcu, hcp, hb3⟩
        have HB3 := Lib.hid (HB1.out.trans (hb3.mono HB1.out.size))
        have y3 := HYW.out _ HB3.out
        have HCP := Lib.hid hcp
        have HHC := Lib.hid (has_any cu c' l w3 hcu)
        rw [decide_eq_true (HCP.out.mem_iff.2 HLC.out)] at HHC
        obtain ⟨ca, cc, rfl, hc1, hc2, hc3⟩ := hcu
        unfold maxLen at hc2
        have HCX := Lib.hid hc3
        clear hc3 hb3 hcp HCS HRA HAB
        generalize hM : c'.length = M at *
        have HM := Lib.hid hM; clear hM
        go_wp2_with fail
        refine HHC.out.mono ?_
        rintro e w4 ⟨rfl, rfl⟩
        go_wp2_with fail
        go_loopw [9] (fun i W => ∃ (j2 t : Nat), j2 ≤ M ∧ i = .int .i64 (j2 : Int) ∧ W = w3.drewN t) (fun i _ => M - (intOf i).toNat)
        case atStart => exact ⟨0, 0, Nat.zero_le _, rfl, rfl⟩
        case round =>
          obtain ⟨j2, t, hj2, rfl, hW⟩ := hrel
          have HW := Lib.hid (below_draws ⟨t, hW⟩)
          have HWT := Lib.hid hW
          have yj := HYW.out _ (HB3.out.trans (HW.out.mono HB3.out.size))
          clear hW y3
          by_cases hlt2 : j2 < M
          · obtain ⟨b2, off2, ha2, hbl2, hcell2⟩ := HCX.out.resolve_left (by omega)
            subst ha2
            have z0 := (HW.out.cell (p := ⟨b2, off2 + j2, none⟩) hbl2).trans (hcell2 j2 hlt2)
            have hym := HCP.out.mem_iff.1 (getD_mem (l := c') (i := j2) (by rw [HM.out]; exact hlt2))
            have hyb := HCB.out _ hym
            clear hcell2
            generalize c'.getD j2 0 = y at *
            have hy1 := hyb.1
            have hy2 := hyb.2
            have HRT := Lib.hid (row_take HT.out (j := j) (by rw [HL.out]; omega))
            have HDR : Hid (∀ s, ∃ n, wr.drewN s = w3.drewN n) := fun s => by
              refine ⟨t + s, ?_⟩
              rw [HWT.out]
              exact World.drewN_drewN _ _ _
            clear hyb
            by_cases he : y = l
            · have hb1 : (y != l) = false := by simp [he]
              have hb2 : (l != l) = false := by simp
              subst he
              clear hym
              go_wp2_with fail
              go_quiet (fail)
              go_wp2_with fail
              go_roundw
              case rel =>
                obtain ⟨n9, h9⟩ := HDR.out _
                exact ⟨j2 + 1, n9, by omega, by go_num, h9⟩
              case measure => go_light; simp [intOf]; omega
            · have hb1 : (y != l) = true := by simp [he]
              have hng := HNG.out y hym he
              have HHN : Hid (∀ s, Calls Try.prog 32 #[.slice (some ⟨b, off, none⟩) j tc, .int .i64 (-y)] (wr.drewN s) fun e w' => e = .returned (.bool true) ∧ wr.drewN s = w') := fun s => by
                have hbs : Below w1.heap.size w1 (wr.drewN s) := by
                  obtain ⟨n9, h9⟩ := HDR.out s
                  rw [h9]
                  exact HB3.out.trans ((below_draws ⟨n9, rfl⟩).mono HB3.out.size)
                have := has_any _ (p.tr.take j) (-y) (wr.drewN s) (HRT.out.keep hbs)
                rwa [decide_eq_true hng] at this
              have hi1 : (0 : Int) ≤ (j : Int) := by omega
              have hi2 : (j : Int) ≤ (tc : Int) := by omega
              have hi3 : (j : Int) ≤ (L : Int) := by omega
              clear he hym hng
              go_wp2_with fail
              go_quiet ((go_at_call 32; refine (HHN.out _).mono ?_; rintro e w' ⟨rfl, rfl⟩; exact ⟨rfl, _, rfl⟩))
              go_wp2_with fail
              go_roundw
              case rel =>
                obtain ⟨n9, h9⟩ := HDR.out _
                exact ⟨j2 + 1, n9, by omega, by go_num, h9⟩
              case measure => go_light; simp [intOf]; omega
          · have e1 : decide ((j2 : Int) < (M : Int)) = false := decide_eq_false (by omega)
            have e2 : decide (j2 < M) = false := decide_eq_false hlt2
            clear hlt2
            go_wp2_with fail
            go_roundw
            case rel => exact ⟨j + 1, by omega, by go_num, HB3.out.trans (HW.out.mono HB3.out.size)⟩
            case measure => go_light; simp [intOf]; omega
    · have e1 : decide ((j : Int) < (L : Int)) = false := decide_eq_false (by omega)
      have e2 : decide (j < L) = false := decide_eq_false hlt
      clear hlt
      go_wp2_with fail
      go_ret
      exact ⟨rfl, HBW.out⟩
end Go.Proofs.Ytmlgpnaikdpifaa
