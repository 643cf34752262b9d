/- The walk of skolemlaw16.LearnFinal: it answers true. Conditions: the arguments read as 64-bit ints. -/
import Derived.Test.YtjlmooimdogmjaaLg42
import Derived.Test.YtjlmooimdogmjaaLg49
set_option linter.unusedVariables false
set_option linter.unusedSimpArgs false
set_option linter.unusedVariables false
set_option linter.unusedSimpArgs false
namespace Go.Proofs.Ytjlmooimdogmjaa
open Go.RowKit

theorem decP_len2 (p : Pr) : (decP p).length = p.st.length := by unfold decP; simp

set_option maxRecDepth 8000 in
set_option maxHeartbeats 8000000 in
theorem lawLf (la : Option Addr) (lc : Nat) (ls : List Int) (ov : Value) (os : List Int) (kx : Int) (w : World) (hl : RowAt w la lc ls) (ho : Row w ov os)
    (hli : ∀ y ∈ ls, -9223372036854775808 ≤ y ∧ y ≤ 9223372036854775807) (hoi : ∀ y ∈ os, -9223372036854775808 ≤ y ∧ y ≤ 9223372036854775807) (hk1 : -9223372036854775808 ≤ kx) (hk2 : kx ≤ 9223372036854775807) :
    Calls Try.prog 5 #[.slice la ls.length lc, ov, .int .i64 kx] w fun e w' => e = .returned (.bool true) ∧ Below w.heap.size w w' := by
  have HRL : Hid (∀ V, Below w.heap.size w V → RowAt V la lc ls) := fun V hV => (row_at (Row.keep ⟨la, lc, rfl, hl⟩ hV)).2
  have HRO : Hid (∀ V, Below w.heap.size w V → Row V ov os) := fun V hV => ho.keep hV
  obtain ⟨oa, oc, rfl, ho1, ho2, _⟩ := ho
  have HLI := Lib.hid hli
  have HOI := Lib.hid hoi
  clear hli hoi hl
  by_cases g1 : 120 < ls.length
  · have d1 : decide ((120 : Int) < ((ls.length : Nat) : Int)) = true := decide_eq_true (by omega)
    clear g1
    go_enter Try.func5, Try.ntmps5
    go_wp2_with fail
    refine (first16_any _).mono ?_
    rintro e w1 ⟨rfl, hb⟩
    go_wp2_with fail
    go_ret
    exact ⟨rfl, hb⟩
  have d1 : decide ((120 : Int) < ((ls.length : Nat) : Int)) = false := decide_eq_false (by omega)
  by_cases g2 : 12 < os.length
  · have d2 : decide ((12 : Int) < ((os.length : Nat) : Int)) = true := decide_eq_true (by omega)
    clear g1 g2
    go_enter Try.func5, Try.ntmps5
    go_wp2_with fail
    refine (first16_any _).mono ?_
    rintro e w1 ⟨rfl, hb⟩
    go_wp2_with fail
    go_ret
    exact ⟨rfl, hb⟩
  have d2 : decide ((12 : Int) < ((os.length : Nat) : Int)) = false := decide_eq_false (by omega)
  have HCF : Hid (∀ V, Below w.heap.size w V → Calls Try.prog 9 #[.slice la ls.length lc, .slice oa os.length oc] V fun e w' => ∃ v cv dv p k b T xs, e = .returned (.tuple #[v, cv, dv, .int .i64 k, .bool b]) ∧ ConfR V w' T v p cv dv xs ∧ ConfE p k b) := fun V hV => conflict_any la lc ls _ os V (HRL.out V hV) (HRO.out V hV) HLI.out HOI.out (by omega) (by omega)
  have HLT := Lib.hid (fun V => lit_any kx 12 V (by decide) (by decide) hk1 hk2)
  have hxb := litOf_bd kx 12 (by decide)
  generalize litOf kx 12 = x at *
  obtain ⟨_, hx1, hx2⟩ := hxb
  clear g1 g2 hk1 hk2
  go_enter Try.func5, Try.ntmps5
  go_wp2_with fail
  refine (first16_any _).mono ?_
  rintro e w1 ⟨rfl, hb⟩
  have HB1 := Lib.hid hb
  clear hb
  go_wp2_with fail
  refine (HCF.out _ HB1.out).mono ?_
  rintro e w2 ⟨v, cv, dv, p, k, b, T, xs, rfl, hC, hE⟩
  obtain ⟨q, rfl⟩ := hC.pt.ptr
  obtain ⟨ca, cc, rfl, _⟩ := hC.rows
  have hdl := decP_len2 p
  obtain ⟨da, dc, rfl, _⟩ := hC.dec
  have HC := Lib.hid hC
  have HB2 : Hid (Below w.heap.size w w2) := HB1.out.trans (hC.pt.bel.mono HB1.out.size)
  clear hC HCF HRL HRO HLI HOI d1 d2
  rcases hE with ⟨rfl, _⟩ | ⟨rfl, hE⟩
  · clear hdl
    go_wp2_with fail
    go_ret
    exact ⟨rfl, HB2.out⟩
  by_cases hst : p.st = []
  · have hz : (decP p).length = 0 := by rw [hdl, hst]; rfl
    have HZ := Lib.hid hz
    have hzz : (((decP p).length : Nat) : Int) = 0 := by omega
    have hz0 : ((((decP p).length : Nat) : Int) == 0) = true := by rw [hzz]; rfl
    clear hz hzz hdl
    generalize (decP p).length = dn at *
    go_wp2_with fail
    go_ret
    exact ⟨rfl, HB2.out⟩
  have HCL : Hid (CldP p) := hE.resolve_left hst
  have hd0 : ((((decP p).length : Nat) : Int) == 0) = false := by
    have : 0 < p.st.length := List.length_pos_iff.2 hst
    rw [beq_eq_false_iff_ne, hdl]; omega
  have HVX := Lib.hid (fun (y : Int) (h1 : -12 ≤ y) (h2 : y ≤ 12) => HC.out.pt.use fun S hS => pval_any w2 hS y (by omega) (by omega))
  have HDN := Lib.hid (show (decP p).length ≤ 20 from by
    have h1 := HC.out.pt.wf.tr_len
    have hs : p.st.Nodup := HC.out.pt.wf.sorted.imp fun hab => Nat.ne_of_lt hab
    have hsub : ∀ s ∈ p.st, s ∈ List.range p.tr.length := fun s hs => List.mem_range.2 (HC.out.pt.wf.lt s hs)
    have h2 := hs.length_le_of_subset hsub
    rw [List.length_range] at h2
    have := HC.out.n
    omega)
  clear hE hst hdl
  generalize hdn : (decP p).length = dn at *
  have HDD := Lib.hid hdn
  clear hdn
  have HV1 := Lib.hid (HVX.out x (by omega) (by omega))
  by_cases hv1 : valP p x = 2
  · as_aux_lemma =>
    rw [hv1] at HV1
    go_wp2_with fail
    refine (HLT.out _).mono ?_
    rintro e w' ⟨rfl, rfl⟩
    go_wp2_with fail
    refine HV1.out.mono ?_
    rintro e w' ⟨rfl, rfl⟩
    go_wp2_with fail
    refine HV1.out.mono ?_
    rintro e w' ⟨rfl, rfl⟩
    have HV2 := Lib.hid (HC.out.pt.wf.val_false.1 hv1)
    have HFI := Lib.hid (HC.out.pt.use fun S hS => final_any w2 hS (by have := HC.out.len; omega) x HV2.out)
    clear hv1
    go_wp2_with fail
    refine HFI.out.mono ?_
    rintro e w3 ⟨u, ds, met, rfl, hrow, hI, hb3⟩
    have HRW := Lib.hid hrow
    have HI := Lib.hid hI
    have HB3 : Hid (Below w.heap.size w w3) := HB2.out.trans (hb3.mono HB2.out.size)
    have HDR := Lib.hid ((HC.out.dec.row).keep hb3)
    have HXR : Hid (RowsAt w3 ca cc xs) := by
      obtain ⟨a5, c5, e5, hr5⟩ := HC.out.rows.rows
      injection e5 with e51 _ e53
      subst e51; subst e53
      exact hr5.keep hb3
    have HPV3 : Hid (PT w1 T (.pointer (some ⟨q, 0, none⟩)) p w3) := HC.out.pt.keep hb3
    have HHS : Hid (∀ z, Calls Try.prog 14 #[.slice da dn dc, .int .i64 z] w3 fun e w' => e = .returned (.bool (decide (z ∈ decP p))) ∧ w3 = w') := fun z => has_any _ (decP p) z w3 HDR.out
    have HCLO := Lib.hid (clo_any 12 ca cc xs u ds w3 HXR.out hrow (by decide) (by decide) (fun c hc l hl => by
      have := HC.out.rgt c hc l hl
      have h2 := newV_n (n := 12) (by decide) (by decide)
      omega) (fun d hd => by
      have h1 := HC.out.pt.wf.rgt _ (HC.out.pt.wf.dec_tr (HI.out.sub d hd))
      rw [HC.out.n] at h1
      have h2 := newV_n (n := 12) (by decide) (by decide)
      omega))
    obtain ⟨ua, uc, rfl, hu1, hu2, hu3⟩ := hrow
    unfold maxLen at hu2
    have HX := Lib.hid hu3
    clear hb3 hI hu3 HFI
    generalize hN : ds.length = N at *
    have HN := Lib.hid hN
    clear hN
    go_wp2_with fail
    go_loopw [15] (fun iv V => ∃ j : Nat, j ≤ N ∧ iv = .int .i64 (j : Int) ∧ V = w3) (fun iv _ => N - (intOf iv).toNat)
    case atStart => exact ⟨0, Nat.zero_le _, rfl, rfl⟩
    case round =>
      obtain ⟨j, hj, rfl, rfl⟩ := hrel
      by_cases hlt : j < N
      · obtain ⟨b, off, ha, hbl, hcell⟩ := HX.out.resolve_left (by omega)
        subst ha
        have y0 := hcell j hlt
        have hmem := HI.out.sub _ (getD_mem (l := ds) (i := j) (by rw [HN.out]; exact hlt))
        have HH := Lib.hid (HHS.out (ds.getD j 0))
        rw [decide_eq_true hmem] at HH
        clear hcell hmem
        generalize ds.getD j 0 = z at *
        go_wp2_with fail
        refine HH.out.mono ?_
        rintro e w' ⟨rfl, rfl⟩
        go_wp2_with fail
        go_roundw
        case rel => exact ⟨j + 1, by omega, by go_num, by first | trivial | rfl⟩
        case measure => go_light; simp [intOf]; omega
      · have e1 : decide ((j : Int) < (N : Int)) = false := decide_eq_false (by omega)
        have e2 : decide (j < N) = false := decide_eq_false hlt
        clear hlt
        go_wp2_with fail
        refine HCLO.out.mono ?_
        rintro e w4 ⟨hres, hb4⟩
        rcases hres with ⟨o, V, rfl, hV, hVl, hown⟩ | ⟨rfl, hwr⟩
        · have HKR := Lib.hid (own_row hown)
          have hkn : -x ∈ knownL V := (mem_knownL hV.vals _).2 (hV.all (fun c hc l hl => by
            have := HC.out.rgt c hc l hl
            have h2 := newV_n (n := 12) (by decide) (by decide)
            rw [hVl]; omega) ((HC.out.same.fol (fun l => Iff.rfl) _).2 (HI.out.fol HC.out.pt.wf HV2.out)))
          have HHO := Lib.hid (has_any o _ (-x) w4 HKR.out)
          rw [decide_eq_true hkn] at HHO
          obtain ⟨ao, co, rfl, _⟩ := own_row hown
          have HB4 : Hid (Below w.heap.size w w4) := HB3.out.trans (hb4.mono HB3.out.size)
          have HP4 := Lib.hid (HPV3.out.keep hb4)
          have HAB := Lib.hid (abs_any x w4 (by omega) (by omega))
          have hab := plc_absI (-x)
          rw [plc_negate] at hab
          have hab2 : absI x = (plc x : Int) := (plc_absI x).symm
          have hapos : 0 ≤ absI x ∧ absI x ≤ 12 := by unfold absI; split <;> omega
          have HLO := Lib.hid (HP4.out.use fun S hS => plev_any w4 hS (absI x) (by omega) (by omega))
          have HHD := Lib.hid (has_any _ (decP p) (-x) w4 (HDR.out.keep hb4))
          have HNB := Lib.hid (number_any 0 1 w4 (by decide) (by decide) (by decide) (by decide))
          have hz0 : (0 : Int) % 1 = 0 := rfl
          rw [hz0] at HNB
          have HXC := Lib.hid (HX.out)
          have HBB := Lib.hid hb4
          clear hV hVl hown hkn hb4 hz0
          by_cases hlz : levP p (absI x) = 0
          · have hds := (HI.out.zero (by rw [plc_negate, ← hab2]; exact hlz)).1
            have hnd : -x ∉ decP p := fun hm => by
              obtain ⟨s, hs, e⟩ := mem_decP.1 hm
              have hsl := HC.out.pt.wf.lt s hs
              have h3 := HC.out.pt.wf.levI hsl
              have h4 : vrI p s = absI x := by unfold vrI; rw [e, plc_negate, ← hab2]
              rw [h4, hlz] at h3
              have := lvI_pos hs
              omega
            rw [decide_eq_false hnd] at HHD
            rw [hlz] at HLO
            have hN0 : N = 0 := by rw [← HN.out, hds]; rfl
            have hN1 : ((N : Int) == 0) = true := by rw [hN0]; rfl
            generalize absI x = ay at *
            clear hds hnd hlz hN0 hab hab2
            go_wp2_with fail
            refine HHO.out.mono ?_
            rintro e w' ⟨rfl, rfl⟩
            go_wp2_with fail
            refine HAB.out.mono ?_
            rintro e w' ⟨rfl, rfl⟩
            go_wp2_with fail
            refine HLO.out.mono ?_
            rintro e w' ⟨rfl, rfl⟩
            go_wp2_with fail
            refine HHD.out.mono ?_
            rintro e w' ⟨rfl, rfl⟩
            go_wp2_with fail
            refine HNB.out.mono ?_
            rintro e w' ⟨rfl, rfl⟩
            go_wp2_with fail
            go_ret
            exact ⟨rfl, HB4.out⟩
          · have hlp : 0 < levP p (absI x) := by
              obtain ⟨i0, hi0, e1', e2'⟩ := tr_at HV2.out
              have := HC.out.pt.wf.levI hi0
              rw [e2', plc_negate, ← hab2] at this
              omega
            have dl : decide ((0 : Int) < levP p (absI x)) = true := decide_eq_true hlp
            by_cases hdm : -x ∈ decP p
            · rw [decide_eq_true hdm] at HHD
              have hds : ds = [-x] := by
                obtain ⟨s, hs, e⟩ := mem_decP.1 hdm
                rcases HI.out.one ⟨s, HC.out.pt.wf.lt s hs, hs, e⟩ with ⟨h1, _⟩ | ⟨_, h2⟩
                · cases h1
                · exact h2
              have hN1 : N = 1 := by rw [← HN.out, hds]; rfl
              have hN2 : ((N : Int) == 1) = true := by rw [hN1]; rfl
              obtain ⟨b, off, ha, hbl, hcell⟩ := HX.out.resolve_left (by omega)
              subst ha
              have yw0 : wr.cell? ⟨b, off, none⟩ = some (.int .i64 (-x)) := by
                have := hcell 0 (by omega)
                rw [Nat.add_zero, hds] at this
                exact this
              have y0' := (HBB.out.cell (p := ⟨b, off, none⟩) hbl).trans yw0
              clear yw0
              have hNp : (0 : Int) < (N : Int) := by omega
              have byy : (-x == -x) = true := by simp
              generalize absI x = ay at *
              generalize levP p ay = lv at *
              clear hds hdm hlz hN1 hab hab2 hcell hlp
              go_wp2_with fail
              refine HHO.out.mono ?_
              rintro e w' ⟨rfl, rfl⟩
              go_wp2_with fail
              refine HAB.out.mono ?_
              rintro e w' ⟨rfl, rfl⟩
              go_wp2_with fail
              refine HLO.out.mono ?_
              rintro e w' ⟨rfl, rfl⟩
              go_wp2_with fail
              refine HHD.out.mono ?_
              rintro e w' ⟨rfl, rfl⟩
              go_wp2_with fail
              refine HNB.out.mono ?_
              rintro e w' ⟨rfl, rfl⟩
              go_wp2_with fail
              go_ret
              exact ⟨rfl, HB4.out⟩
            · rw [decide_eq_false hdm] at HHD
              generalize absI x = ay at *
              generalize levP p ay = lv at *
              clear hdm hlz hab hab2 hlp
              go_wp2_with fail
              refine HHO.out.mono ?_
              rintro e w' ⟨rfl, rfl⟩
              go_wp2_with fail
              refine HAB.out.mono ?_
              rintro e w' ⟨rfl, rfl⟩
              go_wp2_with fail
              refine HLO.out.mono ?_
              rintro e w' ⟨rfl, rfl⟩
              go_wp2_with fail
              refine HHD.out.mono ?_
              rintro e w' ⟨rfl, rfl⟩
              go_wp2_with fail
              refine HNB.out.mono ?_
              rintro e w' ⟨rfl, rfl⟩
              go_wp2_with fail
              go_ret
              exact ⟨rfl, HB4.out⟩
        · exfalso
          refine HC.out.pt.wf.right HCL.out ?_
          exact ((HC.out.same.wrg (fun l => Iff.rfl)).1 hwr).mono (fun c hc => hc) fun d hd => HI.out.sub d hd
  · have b1 : (valP p x != 2) = true := by simp [hv1]
    have HV3 := Lib.hid (HVX.out (-x) (by omega) (by omega))
    by_cases hv2 : valP p (-x) = 2
    · as_aux_lemma =>
      rw [hv2] at HV3
      clear hv1
      go_wp2_with fail
      refine (HLT.out _).mono ?_
      rintro e w' ⟨rfl, rfl⟩
      go_wp2_with fail
      refine HV1.out.mono ?_
      rintro e w' ⟨rfl, rfl⟩
      go_wp2_with fail
      refine HV3.out.mono ?_
      rintro e w' ⟨rfl, rfl⟩
      clear b1
      obtain ⟨y, hy⟩ : ∃ y, -x = y := ⟨_, rfl⟩
      have hy1 : -12 ≤ y ∧ y ≤ 12 := by omega
      rw [hy] at hv2
      have hyx : -x = y := hy
      rw [hy]
      have HV2 := Lib.hid (HC.out.pt.wf.val_false.1 hv2)
      have HFI := Lib.hid (HC.out.pt.use fun S hS => final_any w2 hS (by have := HC.out.len; omega) y HV2.out)
      clear hv2
      go_wp2_with fail
      refine HFI.out.mono ?_
      rintro e w3 ⟨u, ds, met, rfl, hrow, hI, hb3⟩
      have HRW := Lib.hid hrow
      have HI := Lib.hid hI
      have HB3 : Hid (Below w.heap.size w w3) := HB2.out.trans (hb3.mono HB2.out.size)
      have HDR := Lib.hid ((HC.out.dec.row).keep hb3)
      have HXR : Hid (RowsAt w3 ca cc xs) := by
        obtain ⟨a5, c5, e5, hr5⟩ := HC.out.rows.rows
        injection e5 with e51 _ e53
        subst e51; subst e53
        exact hr5.keep hb3
      have HPV3 : Hid (PT w1 T (.pointer (some ⟨q, 0, none⟩)) p w3) := HC.out.pt.keep hb3
      have HHS : Hid (∀ z, Calls Try.prog 14 #[.slice da dn dc, .int .i64 z] w3 fun e w' => e = .returned (.bool (decide (z ∈ decP p))) ∧ w3 = w') := fun z => has_any _ (decP p) z w3 HDR.out
      have HCLO := Lib.hid (clo_any 12 ca cc xs u ds w3 HXR.out hrow (by decide) (by decide) (fun c hc l hl => by
        have := HC.out.rgt c hc l hl
        have h2 := newV_n (n := 12) (by decide) (by decide)
        omega) (fun d hd => by
        have h1 := HC.out.pt.wf.rgt _ (HC.out.pt.wf.dec_tr (HI.out.sub d hd))
        rw [HC.out.n] at h1
        have h2 := newV_n (n := 12) (by decide) (by decide)
        omega))
      obtain ⟨ua, uc, rfl, hu1, hu2, hu3⟩ := hrow
      unfold maxLen at hu2
      have HX := Lib.hid hu3
      clear hb3 hI hu3 HFI
      generalize hN : ds.length = N at *
      have HN := Lib.hid hN
      clear hN
      go_wp2_with fail
      go_loopw [15] (fun iv V => ∃ j : Nat, j ≤ N ∧ iv = .int .i64 (j : Int) ∧ V = w3) (fun iv _ => N - (intOf iv).toNat)
      case atStart => exact ⟨0, Nat.zero_le _, rfl, rfl⟩
      case round =>
        obtain ⟨j, hj, rfl, rfl⟩ := hrel
        by_cases hlt : j < N
        · obtain ⟨b, off, ha, hbl, hcell⟩ := HX.out.resolve_left (by omega)
          subst ha
          have y0 := hcell j hlt
          have hmem := HI.out.sub _ (getD_mem (l := ds) (i := j) (by rw [HN.out]; exact hlt))
          have HH := Lib.hid (HHS.out (ds.getD j 0))
          rw [decide_eq_true hmem] at HH
          clear hcell hmem
          generalize ds.getD j 0 = z at *
          go_wp2_with fail
          refine HH.out.mono ?_
          rintro e w' ⟨rfl, rfl⟩
          go_wp2_with fail
          go_roundw
          case rel => exact ⟨j + 1, by omega, by go_num, by first | trivial | rfl⟩
          case measure => go_light; simp [intOf]; omega
        · have e1 : decide ((j : Int) < (N : Int)) = false := decide_eq_false (by omega)
          have e2 : decide (j < N) = false := decide_eq_false hlt
          clear hlt
          go_wp2_with fail
          refine HCLO.out.mono ?_
          rintro e w4 ⟨hres, hb4⟩
          rcases hres with ⟨o, V, rfl, hV, hVl, hown⟩ | ⟨rfl, hwr⟩
          · have HKR := Lib.hid (own_row hown)
            have hkn : -y ∈ knownL V := (mem_knownL hV.vals _).2 (hV.all (fun c hc l hl => by
              have := HC.out.rgt c hc l hl
              have h2 := newV_n (n := 12) (by decide) (by decide)
              rw [hVl]; omega) ((HC.out.same.fol (fun l => Iff.rfl) _).2 (HI.out.fol HC.out.pt.wf HV2.out)))
            have HHO := Lib.hid (has_any o _ (-y) w4 HKR.out)
            rw [decide_eq_true hkn] at HHO
            obtain ⟨ao, co, rfl, _⟩ := own_row hown
            have HB4 : Hid (Below w.heap.size w w4) := HB3.out.trans (hb4.mono HB3.out.size)
            have HP4 := Lib.hid (HPV3.out.keep hb4)
            have HAB := Lib.hid (abs_any y w4 (by omega) (by omega))
            have hab := plc_absI (-y)
            rw [plc_negate] at hab
            have hab2 : absI y = (plc y : Int) := (plc_absI y).symm
            have hapos : 0 ≤ absI y ∧ absI y ≤ 12 := by unfold absI; split <;> omega
            have HLO := Lib.hid (HP4.out.use fun S hS => plev_any w4 hS (absI y) (by omega) (by omega))
            have HHD := Lib.hid (has_any _ (decP p) (-y) w4 (HDR.out.keep hb4))
            have HNB := Lib.hid (number_any 0 1 w4 (by decide) (by decide) (by decide) (by decide))
            have hz0 : (0 : Int) % 1 = 0 := rfl
            rw [hz0] at HNB
            have HXC := Lib.hid (HX.out)
            have HBB := Lib.hid hb4
            clear hV hVl hown hkn hb4 hz0
            by_cases hlz : levP p (absI y) = 0
            · have hds := (HI.out.zero (by rw [plc_negate, ← hab2]; exact hlz)).1
              have hnd : -y ∉ decP p := fun hm => by
                obtain ⟨s, hs, e⟩ := mem_decP.1 hm
                have hsl := HC.out.pt.wf.lt s hs
                have h3 := HC.out.pt.wf.levI hsl
                have h4 : vrI p s = absI y := by unfold vrI; rw [e, plc_negate, ← hab2]
                rw [h4, hlz] at h3
                have := lvI_pos hs
                omega
              rw [decide_eq_false hnd] at HHD
              rw [hlz] at HLO
              have hN0 : N = 0 := by rw [← HN.out, hds]; rfl
              have hN1 : ((N : Int) == 0) = true := by rw [hN0]; rfl
              generalize absI y = ay at *
              clear hds hnd hlz hN0 hab hab2
              go_wp2_with fail
              refine HHO.out.mono ?_
              rintro e w' ⟨rfl, rfl⟩
              go_wp2_with fail
              refine HAB.out.mono ?_
              rintro e w' ⟨rfl, rfl⟩
              go_wp2_with fail
              refine HLO.out.mono ?_
              rintro e w' ⟨rfl, rfl⟩
              go_wp2_with fail
              refine HHD.out.mono ?_
              rintro e w' ⟨rfl, rfl⟩
              go_wp2_with fail
              refine HNB.out.mono ?_
              rintro e w' ⟨rfl, rfl⟩
              go_wp2_with fail
              go_ret
              exact ⟨rfl, HB4.out⟩
            · have hlp : 0 < levP p (absI y) := by
                obtain ⟨i0, hi0, e1', e2'⟩ := tr_at HV2.out
                have := HC.out.pt.wf.levI hi0
                rw [e2', plc_negate, ← hab2] at this
                omega
              have dl : decide ((0 : Int) < levP p (absI y)) = true := decide_eq_true hlp
              by_cases hdm : -y ∈ decP p
              · rw [decide_eq_true hdm] at HHD
                have hds : ds = [-y] := by
                  obtain ⟨s, hs, e⟩ := mem_decP.1 hdm
                  rcases HI.out.one ⟨s, HC.out.pt.wf.lt s hs, hs, e⟩ with ⟨h1, _⟩ | ⟨_, h2⟩
                  · cases h1
                  · exact h2
                have hN1 : N = 1 := by rw [← HN.out, hds]; rfl
                have hN2 : ((N : Int) == 1) = true := by rw [hN1]; rfl
                obtain ⟨b, off, ha, hbl, hcell⟩ := HX.out.resolve_left (by omega)
                subst ha
                have yw0 : wr.cell? ⟨b, off, none⟩ = some (.int .i64 (-y)) := by
                  have := hcell 0 (by omega)
                  rw [Nat.add_zero, hds] at this
                  exact this
                have y0' := (HBB.out.cell (p := ⟨b, off, none⟩) hbl).trans yw0
                clear yw0
                have hNp : (0 : Int) < (N : Int) := by omega
                have byy : (-y == -y) = true := by simp
                generalize absI y = ay at *
                generalize levP p ay = lv at *
                clear hds hdm hlz hN1 hab hab2 hcell hlp
                go_wp2_with fail
                refine HHO.out.mono ?_
                rintro e w' ⟨rfl, rfl⟩
                go_wp2_with fail
                refine HAB.out.mono ?_
                rintro e w' ⟨rfl, rfl⟩
                go_wp2_with fail
                refine HLO.out.mono ?_
                rintro e w' ⟨rfl, rfl⟩
                go_wp2_with fail
                refine HHD.out.mono ?_
                rintro e w' ⟨rfl, rfl⟩
                go_wp2_with fail
                refine HNB.out.mono ?_
                rintro e w' ⟨rfl, rfl⟩
                go_wp2_with fail
                go_ret
                exact ⟨rfl, HB4.out⟩
              · rw [decide_eq_false hdm] at HHD
                generalize absI y = ay at *
                generalize levP p ay = lv at *
                clear hdm hlz hab hab2 hlp
                go_wp2_with fail
                refine HHO.out.mono ?_
                rintro e w' ⟨rfl, rfl⟩
                go_wp2_with fail
                refine HAB.out.mono ?_
                rintro e w' ⟨rfl, rfl⟩
                go_wp2_with fail
                refine HLO.out.mono ?_
                rintro e w' ⟨rfl, rfl⟩
                go_wp2_with fail
                refine HHD.out.mono ?_
                rintro e w' ⟨rfl, rfl⟩
                go_wp2_with fail
                refine HNB.out.mono ?_
                rintro e w' ⟨rfl, rfl⟩
                go_wp2_with fail
                go_ret
                exact ⟨rfl, HB4.out⟩
          · exfalso
            refine HC.out.pt.wf.right HCL.out ?_
            exact ((HC.out.same.wrg (fun l => Iff.rfl)).1 hwr).mono (fun c hc => hc) fun d hd => HI.out.sub d hd
    · as_aux_lemma =>
      have b2 : (valP p (-x) != 2) = true := by simp [hv2]
      clear hv1 hv2
      generalize valP p x = v1 at *
      generalize valP p (-x) = v2 at *
      go_wp2_with fail
      refine (HLT.out _).mono ?_
      rintro e w' ⟨rfl, rfl⟩
      go_wp2_with fail
      refine HV1.out.mono ?_
      rintro e w' ⟨rfl, rfl⟩
      go_wp2_with fail
      refine HV3.out.mono ?_
      rintro e w' ⟨rfl, rfl⟩
      go_wp2_with fail
      go_ret
      exact ⟨rfl, HB2.out⟩
end Go.Proofs.Ytjlmooimdogmjaa
