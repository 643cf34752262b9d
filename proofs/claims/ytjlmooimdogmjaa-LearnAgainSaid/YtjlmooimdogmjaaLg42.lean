/- The contract of skolemlaw16.conflict. Conditions: the arguments read as 64-bit ints, of at most 120 and 12. · The contracts of the document's Base: right, Implied where it is so. Conditions: the base lies behind a pointer; small right literals; what is asked for is wrong with its opposites. -/
import Derived.Test.YtjlmooimdogmjaaLg41
import Derived.Test.YtjlmooimdogmjaaLg40
import Derived.Test.YtjlmooimdogmjaaLg34
import Derived.Test.YtjlmooimdogmjaaLg04
import Derived.Test.YtjlmooimdogmjaaLg01
set_option linter.unusedVariables false
set_option linter.unusedSimpArgs false
set_option linter.unusedVariables false
set_option linter.unusedSimpArgs false
namespace Go.Proofs.Ytjlmooimdogmjaa
open Go.RowKit

theorem results_tmp5 {fn : Func} {t u v x y : Tmp} (h : fn.results = #[.tmp t, .tmp u, .tmp v, .tmp x, .tmp y]) (tmps : Array Value) (P : Program) (w : World) :
    (results fn tmps).run P w = .ok (.tuple #[tmps.getD t undef, tmps.getD u undef, tmps.getD v undef, tmps.getD x undef, tmps.getD y undef]) w := by
  simp [results, h]
/-- What conflict answers: a clause that came to be wrong, or none, and then nothing is wrong where something was decided. -/
def ConfE (p : Pr) (k : Int) (b : Bool) : Prop :=
  (b = true ∧ p.st ≠ [] ∧ LvC p ∧ ∃ (i : Nat) (c : List Int), k = (i : Int) ∧ p.cl.getD i none = some c ∧ AllF p c ∧ c ≠ []) ∨ (b = false ∧ (p.st = [] ∨ CldP p))
/-- Wrong after a decision where nothing was. -/
theorem conf_yes {p q : Pr} {l : Int} {i : Nat} {c : List Int} (hw : PrW p) (hc : CldP p) (hl : LvC p) (ho : decOk p l = true) (hR : PrpR (decdP p l) (i : Int) q) (hk : q.cl.getD i none = some c) (hf : AllF q c) : ConfE q (i : Int) true := by
  have hst : q.st ≠ [] := by
    rw [hR.2.2.1]; unfold decdP; rw [if_pos ho]; simp
  have hL := hl.dec hw hc ho hR
  refine .inl ⟨rfl, hst, hL, i, c, rfl, hk, hf, fun e => ?_⟩
  subst e
  have hwq := hR.2.2.2.2.1
  have hpos : 0 < q.st.length := List.length_pos_iff.2 hst
  obtain ⟨l, hl, _⟩ := (hL q.st[0] (List.getElem_mem hpos)).not_false (fun x h1 h2 => hwq.not_both (List.mem_of_mem_take h1) (List.mem_of_mem_take h2)) (mem_clsP.2 ⟨i, hk⟩)
  cases hl

set_option maxRecDepth 8000 in
set_option maxHeartbeats 8000000 in
theorem conflict_any (la : Option Addr) (lc : Nat) (ls : List Int) (ov : Value) (os : List Int) (w : World) (hl : RowAt w la lc ls) (ho : Row w ov os)
    (hli : ∀ y ∈ ls, -9223372036854775808 ≤ y ∧ y ≤ 9223372036854775807) (hoi : ∀ y ∈ os, -9223372036854775808 ≤ y ∧ y ≤ 9223372036854775807) (hn : ls.length ≤ 120) (hm : os.length ≤ 12) :
    Calls Try.prog 9 #[.slice la ls.length lc, ov] w fun e w' => ∃ v cv dv p k b T xs, e = .returned (.tuple #[v, cv, dv, .int .i64 k, .bool b]) ∧ ConfR w w' T v p cv dv xs ∧ ConfE p k b := by
  have hol : Below w.heap.size w w := Below.refl _ _
  have HRL : Hid (∀ V, Below w.heap.size w V → Row V (.slice la ls.length lc) ls) := fun V hV => Row.keep ⟨la, lc, rfl, hl⟩ hV
  obtain ⟨hl1, hl2, hl3⟩ := hl
  obtain ⟨oa, oc, rfl, ho1, ho2, ho3⟩ := ho
  unfold maxLen at hl2 ho2
  have HOX := Lib.hid ho3; clear ho3
  clear hl3
  have HLI := Lib.hid hli; clear hli
  have HOI : Hid (∀ k, k < os.length → -9223372036854775808 ≤ os.getD k 0 ∧ os.getD k 0 ≤ 9223372036854775807) := fun k hk => hoi _ (getD_mem hk)
  clear hoi hol
  generalize hnn : ls.length = n at *
  have HN := Lib.hid hnn; clear hnn
  generalize hmm : os.length = m at *
  have HM := Lib.hid hmm; clear hmm
  have H0 := Lib.hid (ps_new (Below.refl w.heap.size w) 12 (by decide) (by decide))
  go_enter Try.func9, Try.ntmps9
  go_wp2_with fail
  refine H0.out.mono ?_
  rintro e w2 ⟨u, rfl, hG⟩
  obtain ⟨q, rfl⟩ := hG.ptr
  have HG := Lib.hid hG
  have hra := row_at (HRL.out w2 hG.bel)
  have H1 := Lib.hid (makeCl_any la lc ls 12 w2 (by decide) (by decide) hra.2 HLI.out (by rw [HN.out]; omega))
  rw [HN.out] at H1
  clear hG hra H0
  go_wp2_with fail
  refine H1.out.mono ?_
  rintro e w3 ⟨⟨fv, xss, rfl, hcr, hx1, hx2, hx3⟩, hb3⟩
  have HA0 : Hid (CfA w w3 (.pointer (some ⟨q, 0, none⟩)) (newP 12) (newP 12) (.slice none 0 0) fv xss []) := by
    have s0 := (PlS.start HG.out).read hb3
    have s1 := s0.none 22
    exact ⟨_, _, s1, hcr.rowsT fun i h1 h2 => .inr ⟨h1, h2⟩, by simp, .nil rfl, by simp⟩
  have HXI := Lib.hid (made_in (by decide) hx1)
  have HXL := Lib.hid (made_len hx2)
  have HXR : Hid (∀ c ∈ xss, ∀ l ∈ c, 1 ≤ plc l ∧ plc l < 13) := fun c hc l hl => rgt_of rfl (hx1 c hc l hl)
  obtain ⟨fa, fc, rfl, hf1⟩ := hcr.rows
  have hf2 := hf1.1
  have hf3 := hf1.2.1
  unfold maxLen at hf3
  clear hcr hx1 hx2 hb3 H1 HG hf1
  have HP0 : Hid ((newP 12).n = 12 ∧ (newP 12).st = [] ∧ (newP 12).cl.length ≤ 0) := ⟨by decide, rfl, Nat.le_refl _⟩
  generalize newP 12 = p0 at *
  generalize hL : xss.length = N at *
  have HL := Lib.hid hL; clear hL
  go_wp2_with fail
  go_loopw [10, 12, 13, 14] (fun cv i _ _ W => ∃ (k : Nat) (p : Pr) (ps : List CI), k ≤ N ∧ i = .int .i64 (k : Int) ∧ CfA w W (.pointer (some ⟨q, 0, none⟩)) p p cv (.slice fa N fc) xss ps ∧ p.n = 12 ∧ p.st = [] ∧ p.cl.length ≤ k ∧ ps.length ≤ k) (fun _ i _ _ _ => N - (intOf i).toNat)
  case atStart => exact ⟨0, p0, [], Nat.zero_le _, rfl, HA0.out, HP0.out.1, HP0.out.2.1, HP0.out.2.2, Nat.le_refl _⟩
  case round =>
    obtain ⟨k, p, ps, hk, rfl, hA, hpn, hps, hpc, hpl⟩ := hrel
    clear HA0 HP0
    have HA := Lib.hid hA
    have HPN := Lib.hid (And.intro hpn hps)
    clear hA hpn hps
    by_cases hlt : k < N
    · as_aux_lemma =>
      obtain ⟨a', c', b, off, rv, e, ha, hbl, y0, hrow, hsl⟩ := HA.out.rowAt (k := k) (by rw [HL.out]; exact hlt)
      injection e with e1 e2 e3
      subst e1; subst e3; subst ha
      clear e2
      have hmem := getD_memL (l := xss) (i := k) (by rw [HL.out]; exact hlt)
      have HAD := Lib.hid (HA.out.add rv _ hrow (HXI.out _ hmem) (by have := HXL.out _ hmem; omega) (by omega))
      have hrx := HXR.out _ hmem
      have HSY : Hid (∀ (bb : Bool) (p' : Pr), AddR p (xss.getD k []) bb p' → (bb = true → ∃ c, NrmP (xss.getD k []) c ∧ p' = addP p c) ∧ (bb = false → p' = p) ∧ p'.n = 12 ∧ p'.st = [] ∧ p'.cl.length ≤ p.cl.length + 1) := fun bb p' hAR => by
        obtain ⟨k1, k2, _, k4⟩ := hAR.keepN
        refine ⟨fun hb => ?_, fun hb => ?_, by rw [k1]; exact HPN.out.1, by rw [k2]; exact HPN.out.2, k4⟩
        · rcases hAR with ⟨_, _, c, h3, h4⟩ | ⟨h1, _⟩
          · exact ⟨c, h3, h4⟩
          · rw [hb] at h1; cases h1
        · rcases hAR with ⟨h1, _⟩ | ⟨_, _, h3⟩
          · rw [hb] at h1; cases h1
          · exact h3
      have HRX := Lib.hid hrx
      obtain ⟨ra, rn, rc, rfl⟩ := hsl
      clear hmem hrow hrx
      go_wp2_with fail
      refine HAD.out.mono ?_
      rintro e w4 ⟨y, bb, p', hAR, rfl, hA4⟩
      obtain ⟨g2, g3, g4, g5, g6⟩ := HSY.out _ _ hAR
      have HA4 := Lib.hid hA4
      obtain ⟨a', c', b', off', rv4, e, ha, hbl4, y4, hrow4, hsl4⟩ := hA4.rowAt (k := k) (by rw [HL.out]; exact hlt)
      injection e with e1 e2 e3
      subst e1; subst e3
      injection ha with ha
      injection ha with ha1 ha2
      subst ha1; subst ha2
      clear e2
      obtain ⟨ra4, rn4, rc4, rfl⟩ := hsl4
      have HG4 := Lib.hid (And.intro g4 (And.intro g5 g6))
      have HG2 := Lib.hid g2
      have HG3 := Lib.hid g3
      clear hAR g2 g3 g4 g5 g6 hA4 hrow4 HAD HSY y0 hbl HA
      cases bb with
      | true =>
        obtain ⟨c, hc, hpc'⟩ := HG2.out rfl
        have HC := Lib.hid hc
        have HPC := Lib.hid hpc'
        have hown := HA4.out.ownC
        have hs5 := HA4.out.bel.size
        clear hc hpc'
        go_wp2_with (at_builtin; refine wpList_appV 25 22 (.slice none 0 0) 24 Try.underlying25 infoInts rfl (by decide) rfl _ _ rfl w4 w.heap.size _ ps.length _ _ rfl hown hs5 (by omega) _ rfl rfl rfl ?_; intro cv6 w6 ho6 hap6)
        have HA7 := Lib.hid (HA4.out.push (k := k) (by rw [HL.out]; exact hlt) (fun a n' cc b' off' e1 e2 => by
          injection e1 with e1 _ _
          rw [← e1] at e2
          injection e2 with e2
          injection e2 with e2 e3
          subst e2; subst e3
          exact y4) HRX.out (by rw [HPC.out]) HC.out hap6 ho6)
        have HG7 := Lib.hid HG4.out
        go_roundw
        case rel => exact ⟨k + 1, p', _, by omega, by go_num, HA7.out, HG7.out.1, HG7.out.2.1, by have := HG7.out.2.2; omega, by simp; omega⟩
        case measure => go_light; simp [intOf]; omega
      | false =>
        have HPP := Lib.hid (HG3.out rfl)
        go_wp2_with fail
        go_roundw
        case rel => exact ⟨k + 1, p, ps, by omega, by go_num, by rw [HPP.out] at HA4; exact HA4.out, HPN.out.1, HPN.out.2, by omega, by omega⟩
        case measure => go_light; simp [intOf]; omega
    · have HB0 := Lib.hid (CfB.start HA.out)
      have e1 : decide ((k : Int) < (N : Int)) = false := decide_eq_false (by omega)
      have e2 : decide (k < N) = false := decide_eq_false hlt
      have H1 := Lib.hid (HB0.out.prop (by omega))
      have hw0 := HB0.out.wf
      have HW0 := Lib.hid hw0
      have hD0 : decP p = [] := by unfold decP; rw [HPN.out.2]; rfl
      have HD0 := Lib.hid hD0
      clear hlt hw0 hD0 HA
      go_wp2_with fail
      refine H1.out.mono ?_
      rintro e w4 ⟨x, p1, hR, rfl, hB⟩
      have HN1 : Hid (p1.n = 12) := by unfold Hid; rw [hR.1]; exact HPN.out.1
      have HC1 : Hid (p1.cl.length ≤ 120) := by unfold Hid; rw [hR.2.1]; omega
      have HS1 : Hid (p1.st = []) := by unfold Hid; rw [hR.2.2.1]; exact HPN.out.2
      have HDD : Hid ([] = decP p1) := by unfold Hid; rw [hR.dec HW0.out, HD0.out]
      have HB := Lib.hid hB
      have HR := Lib.hid hR
      clear hR hB H1 HB0
      by_cases hx : 0 ≤ x
      · have d1 : decide (0 ≤ x) = true := decide_eq_true hx
        clear hx
        obtain ⟨T, xs, hC⟩ := HB.out.out HDD.out HN1.out (by have := HC1.out; omega) (by omega)
        have HCR := Lib.hid hC
        clear hC
        go_wp2_with fail
        refine bodyPost_ret (results_tmp5 rfl _ _ _) rfl ?_
        exact ⟨_, _, _, p1, _, _, T, xs, rfl, HCR.out, .inr ⟨rfl, .inl HS1.out⟩⟩
      · have d1 : decide (0 ≤ x) = false := decide_eq_false hx
        have HCL : Hid (CldP p1) := by
          rcases HR.out.2.2.2.2.2 with ⟨_, h⟩ | ⟨i, _, e, _⟩
          · exact h
          · omega
        have HLV : Hid (LvC p1) := fun s hs => by rw [HS1.out] at hs; cases hs
        have hpl2 : ps.length ≤ 120 := by omega
        clear hx
        go_wp2_with fail
        clear e1 e2 d1
        go_loopw [15, 16, 17, 18] (fun dv i _ _ W => ∃ (k : Nat) (p : Pr) (ds : List Int), k ≤ m ∧ i = .int .i64 (k : Int) ∧ CfB w W (.pointer (some ⟨q, 0, none⟩)) p ds dv u10 ps ∧ ds = decP p ∧ ds.length ≤ k ∧ CldP p ∧ LvC p ∧ p.n = 12 ∧ p.cl.length ≤ 120) (fun _ i _ _ _ => m - (intOf i).toNat)
        case atStart => exact ⟨0, p1, [], Nat.zero_le _, rfl, HB.out, HDD.out, Nat.le_refl _, HCL.out, HLV.out, HN1.out, HC1.out⟩
        case round =>
          obtain ⟨k2, p2, ds, hk2, rfl, hB, hds, hdl, hcl, hlv, hpn2, hpc2⟩ := hrel
          clear HB HDD HCL HLV HN1 HC1 HR
          have HB := Lib.hid hB
          have HDS := Lib.hid hds
          have HCL := Lib.hid hcl
          have HLV := Lib.hid hlv
          have HPN2 := Lib.hid hpn2
          have HPC2 := Lib.hid hpc2
          have HW2 := Lib.hid hB.wf
          obtain ⟨da, dc, rfl, hd1, hd2⟩ := own_shape hB.ownD
          unfold maxLen at hd2
          have HOD := Lib.hid hB.ownD
          have hsz := hB.bel.size
          clear hB hds hcl hlv hpn2
          by_cases hlt : k2 < m
          · obtain ⟨b, off, ha, hbl, hcell⟩ := HOX.out.resolve_left (by omega)
            subst ha
            have y0 := (HB.out.bel.cell (p := ⟨b, off + k2, none⟩) hbl).trans (hcell k2 hlt)
            have hyb := HOI.out k2 hlt
            clear hcell
            generalize os.getD k2 0 = y at *
            have HLT := Lib.hid (fun V => lit_any y 12 V (by decide) (by decide) hyb.1 hyb.2)
            have hxb := litOf_bd y 12 (by decide)
            generalize litOf y 12 = l at *
            have HD := Lib.hid (HB.out.dec l (by omega) (by omega))
            clear hyb hxb
            by_cases ho : decOk p2 l = true
            · rw [ho] at HD
              have HO := Lib.hid ho
              have HDE := Lib.hid (decdP_dec HW2.out ho)
              have hpcd : (decdP p2 l).cl = p2.cl ∧ (decdP p2 l).n = p2.n := by unfold decdP; rw [if_pos ho]; exact ⟨rfl, rfl⟩
              have HPD := Lib.hid hpcd
              have hW3 : PrW (decdP p2 l) → True := fun _ => trivial
              clear ho hpcd hW3
              go_wp2_with fail
              refine (HLT.out _).mono ?_
              rintro e w5 ⟨rfl, rfl⟩
              go_wp2_with fail
              refine HD.out.mono ?_
              rintro e w6 ⟨rfl, hB6⟩
              have HB6 := Lib.hid hB6
              have HOD6 := Lib.hid hB6.ownD
              have hsz6 := hB6.bel.size
              have HPP : Hid (∀ dv7 w7, App w.heap.size w6 w7 (.slice da ds.length dc) dv7 → w7.ownsRow w.heap.size 3 1 dv7 (ds.length + 1) ((ds ++ [l]).map (Value.int .i64)) → Calls Try.prog 19 #[.pointer (some ⟨q, 0, none⟩)] w7 fun e w' => ∃ x p', PrpR (decdP p2 l) x p' ∧ e = .returned (.int .i64 x) ∧ CfB w w' (.pointer (some ⟨q, 0, none⟩)) p' (ds ++ [l]) dv7 u10 ps) := fun dv7 w7 h1 h2 => (HB6.out.app h1 h2).prop (by rw [HPD.out.1]; have := HPC2.out; omega)
              have HWD := Lib.hid hB6.wf
              clear hB6 HB HOD hsz HD
              go_wp2_with (at_builtin; refine wpList_app1 rfl _ _ rfl w6 w.heap.size _ ds.length ds l HOD6.out hsz6 (by omega) rfl rfl ?_; intro dv7 w7 ho7 ha7; obtain ⟨da7, dc7, rfl, hd71, hd72⟩ := own_shape ho7)
              refine (HPP.out _ _ ha7 ho7).mono ?_
              rintro e w8 ⟨x2, p3, hR, rfl, hB8⟩
              have HB8 := Lib.hid hB8
              have HR3 := Lib.hid hR
              have HDS3 : Hid (ds ++ [l] = decP p3) := by unfold Hid; rw [hR.dec HWD.out, HDE.out, HDS.out]
              have HN3 : Hid (p3.n = 12) := by unfold Hid; rw [hR.1, HPD.out.2]; exact HPN2.out
              have HC3 : Hid (p3.cl.length ≤ 120) := by unfold Hid; rw [hR.2.1, HPD.out.1]; exact HPC2.out
              have HLV3 := Lib.hid (HLV.out.dec HW2.out HCL.out HO.out hR)
              clear hR hB8 ho7 ha7 HPP HOD6 HB6
              by_cases hx2 : 0 ≤ x2
              · have d2 : decide (0 ≤ x2) = true := decide_eq_true hx2
                have HCE : Hid (ConfE p3 x2 true) := by
                  rcases HR3.out.2.2.2.2.2 with ⟨e, _⟩ | ⟨i, c, e, hc, hf⟩
                  · omega
                  · have hr := HR3.out
                    rw [e] at hr ⊢
                    exact conf_yes HW2.out HCL.out HLV.out HO.out hr hc hf
                obtain ⟨T, xs, hC⟩ := HB8.out.out HDS3.out HN3.out (by have := HC3.out; omega) (by omega)
                have HCR := Lib.hid hC
                clear hx2 hC
                go_wp2_with fail
                refine bodyPost_ret (results_tmp5 rfl _ _ _) rfl ?_
                exact ⟨_, _, _, p3, _, _, T, xs, rfl, HCR.out, HCE.out⟩
              · have d2 : decide (0 ≤ x2) = false := decide_eq_false hx2
                have HCL3 : Hid (CldP p3) := by
                  rcases HR3.out.2.2.2.2.2 with ⟨_, h⟩ | ⟨i, _, e, _⟩
                  · exact h
                  · omega
                clear hx2
                go_wp2_with fail
                go_roundw
                case rel => exact ⟨k2 + 1, p3, ds ++ [l], by omega, by go_num, HB8.out, HDS3.out, by simp; omega, HCL3.out, HLV3.out, HN3.out, HC3.out⟩
                case measure => go_light; simp [intOf]; omega
            · have ho' : decOk p2 l = false := by simpa using ho
              rw [ho'] at HD
              have HDN : Hid (decdP p2 l = p2) := by unfold Hid decdP; rw [ho']; rfl
              rw [HDN.out] at HD
              clear ho ho'
              go_wp2_with fail
              refine (HLT.out _).mono ?_
              rintro e w5 ⟨rfl, rfl⟩
              go_wp2_with fail
              refine HD.out.mono ?_
              rintro e w6 ⟨rfl, hB6⟩
              have HB6 := Lib.hid hB6
              clear hB6 HB HOD hsz HD
              go_wp2_with fail
              go_roundw
              case rel => exact ⟨k2 + 1, p2, ds, by omega, by go_num, HB6.out, HDS.out, by omega, HCL.out, HLV.out, HPN2.out, HPC2.out⟩
              case measure => go_light; simp [intOf]; omega
          · have e1 : decide ((k2 : Int) < (m : Int)) = false := decide_eq_false (by omega)
            have e2 : decide (k2 < m) = false := decide_eq_false hlt
            obtain ⟨T, xs, hC⟩ := HB.out.out HDS.out HPN2.out (by have := HPC2.out; omega) (by omega)
            have HCR := Lib.hid hC
            clear hlt hC
            go_wp2_with fail
            refine bodyPost_ret (results_tmp5 rfl _ _ _) rfl ?_
            exact ⟨_, _, _, p2, _, _, T, xs, rfl, HCR.out, .inr ⟨rfl, .inr HCL.out⟩⟩
end Go.Proofs.Ytjlmooimdogmjaa

set_option linter.unusedVariables false
set_option linter.unusedSimpArgs false
namespace Go.Proofs.Ytjlmooimdogmjaa
open Go.RowKit

theorem newV_n {n : Int} (h1 : 0 ≤ n) (h2 : n ≤ 4000) : ((newV n).length : Int) = n + 1 := by
  unfold newV
  rw [List.length_replicate]
  omega

set_option maxRecDepth 8000 in
set_option maxHeartbeats 2000000 in
theorem right_any (g : Nat) (n : Int) (u : Value) (ys : List Int) (w : World) (hc0 : w.cell? ⟨g, 0, none⟩ = some (.int .i64 n)) (hn1 : 0 ≤ n) (hn2 : n ≤ 4000) (hu : Row w u ys) (hy : ∀ l ∈ ys, 1 ≤ plc l ∧ (plc l : Int) ≤ n) :
    Calls Try.prog 39 #[.pointer (some ⟨g, 0, none⟩), u] w fun e w' => e = .returned (.bool true) ∧ ∃ k, w' = w.drewN k := by
  have HY : Hid (∀ l ∈ ys, -4000 ≤ l ∧ l ≤ 4000 ∧ ∀ V, Calls Try.prog 22 #[.int .i64 l, .int .i64 n] V fun e w' => e = .returned (.bool true) ∧ V = w') := fun l hl => by
    have h1 := hy l hl
    have h2 := plc_absI l
    have h3 : absI l = l ∨ absI l = -l := by unfold absI; split <;> simp
    refine ⟨by omega, by omega, fun V => ?_⟩
    have := refIs_any l n V (by omega) (by omega) (by omega) (by omega)
    have e : isB n l = true := by
      have : l ≠ 0 := plc_zero' h1.1
      rw [h2] at h1
      unfold isB
      simp
      omega
    rwa [e] at this
  obtain ⟨a, c, rfl, hu1, hu2, hu3⟩ := hu
  unfold maxLen at hu2
  have HX := Lib.hid hu3
  clear hu3 hy
  generalize hL : ys.length = L at *
  have HL := Lib.hid hL; clear hL
  go_enter Try.func39, Try.ntmps39
  go_wp2_with fail
  go_loopw [5] (fun i W => ∃ j : Nat, j ≤ L ∧ i = .int .i64 (j : Int) ∧ ∃ k, W = w.drewN k) (fun i _ => L - (intOf i).toNat)
  case atStart => exact ⟨0, Nat.zero_le _, rfl, 0, rfl⟩
  case round =>
    obtain ⟨j, hj, rfl, t, hw⟩ := hrel
    have HWT := Lib.hid hw
    have HB : Hid (Below w.heap.size w wr) := by rw [hw]; exact below_draws ⟨t, rfl⟩
    have HCC : Hid (∀ V, w.cell? V = wr.cell? V) := fun V => by rw [hw]; rfl
    clear hw
    by_cases hlt : j < L
    · obtain ⟨b, off, ha, hbl, hcell⟩ := HX.out.resolve_left (by omega)
      subst ha
      have y0 := (HB.out.cell (p := ⟨b, off + j, none⟩) hbl).trans (hcell j hlt)
      have c0 := (HCC.out ⟨g, 0, none⟩).symm.trans hc0
      obtain ⟨v1, v2, v3⟩ := HY.out (ys.getD j 0) (getD_mem (by rw [HL.out]; exact hlt))
      have HIS := Lib.hid v3
      clear hcell v3
      generalize ys.getD j 0 = l at *
      go_wp2_with fail
      go_quiet ((go_at_call 22; refine (HIS.out _).mono ?_; rintro e w' ⟨rfl, rfl⟩; exact ⟨rfl, _, rfl⟩))
      go_wp2_with fail
      go_roundw
      case rel => exact ⟨j + 1, by omega, by go_num, t + _, by rw [HWT.out]; exact World.drewN_drewN _ _ _⟩
      case measure => go_light; simp [intOf]; omega
    · have e1 : decide ((j : Int) < (L : Int)) = false := decide_eq_false (by omega)
      have e2 : decide (j < L) = false := decide_eq_false hlt
      clear hlt
      go_wp2_with fail
      go_ret
      exact ⟨rfl, t, HWT.out⟩

set_option maxRecDepth 8000 in
set_option maxHeartbeats 4000000 in
theorem implied_any (g : Nat) (n : Int) (a : Option Addr) (cap : Nat) (xss : List (List Int)) (u : Value) (ys : List Int) (w : World) (hg : g < w.heap.size) (hc0 : w.cell? ⟨g, 0, none⟩ = some (.int .i64 n)) (hc1 : w.cell? ⟨g, 1, none⟩ = some (.slice a xss.length cap)) (hn1 : 0 ≤ n) (hn2 : n ≤ 4000) (hr : RowsAt w a cap xss) (hu : Row w u ys) (hx : ∀ c ∈ xss, ∀ l ∈ c, 1 ≤ plc l ∧ (plc l : Int) ≤ n) (hy : ∀ l ∈ ys, 1 ≤ plc l ∧ (plc l : Int) ≤ n) (hl : ys.length ≤ 1000000) (hW : Wrg xss (ys.map fun l => -l)) :
    Calls Try.prog 16 #[.pointer (some ⟨g, 0, none⟩), u] w fun e w' => e = .returned (.bool true) ∧ Below w.heap.size w w' := by
  have HRI := Lib.hid (right_any g n u ys w hc0 hn1 hn2 hu hy)
  have hnv := newV_n hn1 hn2
  have HCL : Hid (∀ (V : World) (dv : Value), Below w.heap.size w V → Row V dv (ys.map fun l => -l) → Calls Try.prog 25 #[.int .i64 n, .slice a xss.length cap, dv] V fun e w' => e = .returned (.tuple #[.slice none 0 0, .bool false]) ∧ Below V.heap.size V w') := fun V dv hV hd => by
    have hrV : RowsAt V a cap xss := hr.keep hV
    refine (clo_any n a cap xss dv (ys.map fun l => -l) V hrV hd (by omega) (by omega) (fun c hc l hl => ?_) (fun l hl => ?_)).mono ?_
    · have := hx c hc l hl; omega
    · obtain ⟨x, hx', rfl⟩ := List.mem_map.1 hl
      have := hy x hx'
      rw [plc_negate]; omega
    · rintro e w' ⟨⟨o, Vs, rfl, hclo, hlen, _⟩ | ⟨rfl, _⟩, hb⟩
      · exfalso
        refine hclo.right (fun c hc l hl => ?_) hW
        have := hx c hc l hl
        rw [hlen]; omega
      · exact ⟨rfl, hb⟩
  have HYB : Hid (∀ l ∈ ys, -4000 ≤ l ∧ l ≤ 4000) := fun l hl => by
    have h1 := hy l hl
    have h2 := plc_absI l
    have h3 : absI l = l ∨ absI l = -l := by unfold absI; split <;> simp
    omega
  have HC0 : Hid (∀ V, Below w.heap.size w V → V.cell? ⟨g, 0, none⟩ = some (.int .i64 n) ∧ V.cell? ⟨g, 1, none⟩ = some (.slice a xss.length cap)) := fun V hV => ⟨(hV.cell (p := ⟨g, 0, none⟩) hg).trans hc0, (hV.cell (p := ⟨g, 1, none⟩) hg).trans hc1⟩
  obtain ⟨ua, uc, rfl, hu1, hu2, hu3⟩ := hu
  unfold maxLen at hu2
  have HX := Lib.hid hu3
  generalize hN : xss.length = N at *
  clear hu3 hy hx hW hr hnv hN hc0 hc1
  generalize hL : ys.length = L at *
  have HL := Lib.hid hL; clear hL
  go_enter Try.func16, Try.ntmps16
  go_wp2_with fail
  refine HRI.out.mono ?_
  rintro e w1 ⟨rfl, hw1⟩
  have HB1 : Hid (Below w.heap.size w w1) := by obtain ⟨t, rfl⟩ := hw1; exact below_draws ⟨t, rfl⟩
  clear hw1 HRI
  go_wp2_with fail
  go_loopw [5, 6] (fun dv i W => ∃ j : Nat, j ≤ L ∧ i = .int .i64 (j : Int) ∧ W.ownsRow w.heap.size 3 1 dv j (((ys.take j).map fun l => -l).map (Value.int .i64)) ∧ Below w.heap.size w W) (fun _ i _ => L - (intOf i).toNat)
  case atStart => exact ⟨0, Nat.zero_le _, rfl, World.ownsRow_nil _ _ _ _, HB1.out⟩
  case round =>
    obtain ⟨j, hj, rfl, hown, hb⟩ := hrel
    have HB := Lib.hid hb
    have HO := Lib.hid hown
    obtain ⟨da, dc, rfl, hd1, hd2⟩ := own_shape hown
    unfold maxLen at hd2
    have hsz := hb.size
    clear hb hown HB1
    by_cases hlt : j < L
    · obtain ⟨b, off, ha, hbl, hcell⟩ := HX.out.resolve_left (by omega)
      subst ha
      have y0 := (HB.out.cell (p := ⟨b, off + j, none⟩) hbl).trans (hcell j hlt)
      have hlb := HYB.out (ys.getD j 0) (getD_mem (by rw [HL.out]; exact hlt))
      have HTK : Hid (((ys.take (j + 1)).map fun l => -l) = ((ys.take j).map fun l => -l) ++ [-(ys.getD j 0)]) := by
        unfold Hid
        rw [take_snoc ys j (by rw [HL.out]; exact hlt), List.map_append]; rfl
      clear hcell
      generalize ys.getD j 0 = l at *
      obtain ⟨hlb1, hlb2⟩ := hlb
      go_wp2_with (at_builtin; refine wpList_app1 rfl _ _ rfl wr w.heap.size _ j _ (-l) HO.out hsz (by omega) rfl rfl ?_; intro dv9 w9 ho9 ha9)
      go_roundw
      case rel => exact ⟨j + 1, by omega, by go_num, by rw [HTK.out]; exact ho9, HB.out.trans ha9.below⟩
      case measure => go_light; simp [intOf]; omega
    · have e1 : decide ((j : Int) < (L : Int)) = false := decide_eq_false (by omega)
      have e2 : decide (j < L) = false := decide_eq_false hlt
      have htk : ys.take j = ys := List.take_of_length_le (by rw [HL.out]; omega)
      rw [htk] at HO
      have HRW := Lib.hid (own_row HO.out)
      have c0 := (HC0.out wr HB.out).1
      have c1 := (HC0.out wr HB.out).2
      have HC1 := Lib.hid (HCL.out wr _ HB.out HRW.out)
      have HC2 := Lib.hid (HCL.out wr.drew _ HB.out.drew (HRW.out.keep (Below.refl _ _).drew))
      clear hlt htk
      go_upto_region 8 with fail
      go_region_with (first
        | (go_at_call 25; first | (refine HC1.out.mono ?_; rintro e w5 ⟨rfl, hb5⟩) | (refine HC2.out.mono ?_; rintro e w5 ⟨rfl, hb5⟩))
      )
      all_goals
        have HB5 : Hid (Below w.heap.size w w5) := by first | exact HB.out.trans (hb5.mono HB.out.size) | exact HB.out.drew.trans (hb5.mono HB.out.size)
        go_wp2_with fail
        go_ret
        exact ⟨rfl, HB5.out⟩
end Go.Proofs.Ytjlmooimdogmjaa
