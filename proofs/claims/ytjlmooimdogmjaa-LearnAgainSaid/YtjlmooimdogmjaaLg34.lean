/- The contract of the document's Closure: what follows of clauses and literals at once, in order, or that something is wrong. Conditions: all literals have a variable of those that there are; the clauses read as rows of ints. · The contracts of skolemlaw15.holds, wrong and reasons: true, where the prop lies in memory as 'PrS' says, and its clauses and decisions are those told. Conditions: 12 variables; the rows read as clauses and decisions. · The contracts of learn's small functions over a clause that is all false: allFalse, greatest, levels. Conditions: a prop as PrS has it; the clause all false; at most a million literals. -/
import Derived.Test.YtjlmooimdogmjaaLg03
import Derived.Test.YtjlmooimdogmjaaLg23
import Derived.Test.YtjlmooimdogmjaaLg33
import Derived.Deep.Light
import Derived.Deep.LoopGhost
import Derived.Test.YtjlmooimdogmjaaLg32
import Derived.Test.YtjlmooimdogmjaaLg04
import Derived.Test.YtjlmooimdogmjaaLg05
import Derived.Test.YtjlmooimdogmjaaLg17
import Derived.Test.YtjlmooimdogmjaaLg29
set_option linter.unusedVariables false
set_option linter.unusedSimpArgs false
namespace Go.Proofs.Ytjlmooimdogmjaa
open Go.RowKit

theorem rgt_in {n : Nat} {l : Int} (hn : n ≤ 4001) (h : 1 ≤ plc l ∧ plc l < n) : -4001 < l ∧ l < 4001 ∧ l ≠ 0 := by
  have := plc_absI l
  unfold absI at this
  split at this <;> omega
theorem rgt_inW {n : Nat} {c : List Int} (hn : n ≤ 4001) (h : ∀ l ∈ c, 1 ≤ plc l ∧ plc l < n) : InW c := fun l hl => by
  have := rgt_in hn (h l hl)
  omega

set_option maxRecDepth 8000 in
set_option maxHeartbeats 4000000 in
theorem clo_any (n : Int) (a : Option Addr) (cap : Nat) (xss : List (List Int)) (u : Value) (ds : List Int) (w : World) (hr : RowsAt w a cap xss) (hu : Row w u ds) (hn1 : -9223372036854775808 ≤ n) (hn2 : n ≤ 9223372036854775807)
    (hC : RgtC (newV n).length xss) (hD : RgtD (newV n).length ds) :
    Calls Try.prog 25 #[.int .i64 n, .slice a xss.length cap, u] w fun e w' => ((∃ o V, e = .returned (.tuple #[o, .bool true]) ∧ Clo xss ds V ∧ V.length = (newV n).length ∧ w'.ownsRow w.heap.size 3 1 o (knownL V).length ((knownL V).map (Value.int .i64))) ∨ (e = .returned (.tuple #[.slice none 0 0, .bool false]) ∧ Wrg xss ds)) ∧ Below w.heap.size w w' := by
  have hlv := (newV_vals n).len
  have HNW := Lib.hid (refNew_any n w hn1 hn2)
  have HNV : Hid (∀ l, valL (newV n) l = 1 → False) := fun l h => by
    unfold valL at h
    rw [newV_get] at h
    split at h
    · split at h <;> cases h
    · cases h
  have HV0 := Lib.hid (newV_vals n)
  unfold NewPost at HNW
  generalize newV n = V0 at *
  obtain ⟨ua, uc, rfl, hu1, hu2, hu3⟩ := hu
  obtain ⟨hr1, hr2, hr3⟩ := hr
  unfold maxLen at hu2 hr2
  have HU := Lib.hid hu3; clear hu3
  have HR := Lib.hid hr3; clear hr3
  have HC := Lib.hid hC; clear hC
  have HD := Lib.hid hD; clear hD
  generalize hL : V0.length = L at *
  have HL := Lib.hid hL; clear hL
  generalize hm : ds.length = m at *
  have HM := Lib.hid hm; clear hm
  generalize hN : xss.length = N at *
  have HN := Lib.hid hN; clear hN
  go_enter Try.func25, Try.ntmps25
  go_wp2_with fail
  refine HNW.out.mono ?_
  rintro e w1 ⟨p, q, rfl, hA, hb1⟩
  have HA := Lib.hid hA
  have HB1 := Lib.hid hb1
  have HDR : Hid (Drv xss ds V0) := ⟨HV0.out, fun l h => (HNV.out l h).elim⟩
  clear hA hb1 HNW
  go_wp2_with fail
  go_loopw [9] (fun i wr => ∃ (k : Nat) (V : List Int), k ≤ m ∧ i = .int .i64 (k : Int) ∧ Asg wr w.heap.size (.pointer (some ⟨p, 0, none⟩)) p q V ∧ Drv xss ds V ∧ (∀ j, j < k → valL V (ds.getD j 0) = 1) ∧ V.length = L ∧ Below w.heap.size w wr) (fun i _ => m - (intOf i).toNat)
  case atStart => exact ⟨0, V0, Nat.zero_le _, rfl, HA.out, HDR.out, fun j hj => absurd hj (Nat.not_lt_zero _), HL.out, HB1.out⟩
  case round =>
    obtain ⟨k, V, hk, rfl, hA, hdr, hst, hVL, hb⟩ := hrel
    clear HA HDR HB1
    have HA := Lib.hid hA
    have HDR := Lib.hid hdr
    have HST := Lib.hid hst
    have HVL := Lib.hid hVL
    have HBW := Lib.hid hb
    clear hA hdr hst hVL hb
    by_cases hlt : k < m
    · obtain ⟨b, off, ha, hbl, hc⟩ := HU.out.resolve_left (by omega)
      subst ha
      have y0 := (HBW.out.cell (p := ⟨b, off + k, none⟩) hbl).trans (hc k hlt)
      have hrt := HD.out (ds.getD k 0) (by simp [List.getD, show k < ds.length by rw [HM.out]; exact hlt])
      have hmem : ds.getD k 0 ∈ ds := by simp [List.getD, show k < ds.length by rw [HM.out]; exact hlt]
      have HMEM := Lib.hid hmem
      clear hc hmem
      generalize hy : ds.getD k 0 = y at *
      have HY := Lib.hid hy
      have hin := rgt_in hlv hrt
      have hrV : 1 ≤ plc y ∧ plc y < V.length := by rw [HVL.out]; exact hrt
      have HSE := Lib.hid (refSet_any HA.out y (by omega) (by omega))
      clear hy
      by_cases h2 : valL V y = 2
      · have hok : setOk V y = false := by unfold setOk; rw [h2]; simp
        have hsv : setV V y = V := by unfold setV; rw [hok]; rfl
        have HWR : Hid (Wrg xss ds) := .inr ⟨y, .dec HMEM.out, HDR.out.der _ ((val_false HDR.out.vals).1 h2)⟩
        unfold SetPost at HSE
        rw [hok, hsv] at HSE
        clear hok hsv h2 hrV hrt hin
        go_wp2_with fail
        refine HSE.out.mono ?_
        rintro e w2 ⟨rfl, hA2, ho⟩
        have HBE := Lib.hid (ho.below HBW.out HBW.out.size HA.out.bq)
        clear hA2 ho
        go_wp2_with fail
        go_ret2
        exact ⟨.inr ⟨rfl, HWR.out⟩, HBE.out⟩
      · have hok : setOk V y = true := by unfold setOk; rw [(rightB_iff V y).2 hrV]; simp [h2]
        have HDR2 := Lib.hid (HDR.out.set hrV h2 (.dec HMEM.out))
        have HST2 : Hid (∀ j, j < k + 1 → valL (setV V y) (ds.getD j 0) = 1) := fun j hj => by
          by_cases e : j = k
          · rw [e, HY.out, valL_setV hrV h2, if_pos rfl]
          · exact setV_keep hrV h2 (HST.out j (by omega)) HDR.out.vals
        have HVL2 : Hid ((setV V y).length = L) := by unfold Hid; rw [setV_len, HVL.out]
        unfold SetPost at HSE
        rw [hok] at HSE
        clear hok h2 hrV hrt hin
        go_wp2_with fail
        refine HSE.out.mono ?_
        rintro e w2 ⟨rfl, hA2, ho⟩
        have HA2 := Lib.hid hA2
        have HBE := Lib.hid (ho.below HBW.out HBW.out.size HA.out.bq)
        clear hA2 ho
        go_wp2_with fail
        go_roundw
        case rel => exact ⟨k + 1, _, by omega, by go_num, HA2.out, HDR2.out, HST2.out, HVL2.out, HBE.out⟩
        case measure => go_light; simp [intOf]; omega
    · have hkm : k = m := by omega
      have HSA : Hid (∀ l ∈ ds, valL V l = 1) := fun l hl => by
        obtain ⟨j, hj, rfl⟩ := List.getElem_of_mem hl
        have := HST.out j (by rw [hkm, ← HM.out]; exact hj)
        simpa [List.getD, hj] using this
      have e1 : decide ((k : Int) < (m : Int)) = false := decide_eq_false (by omega)
      have e2 : decide (k < m) = false := decide_eq_false hlt
      clear hkm hlt HST
      go_wp2_with fail
      clear e1 e2
      go_loopg [10, 11, 12, 13] (zeros V) (fun gh _ _ _ _ wr => ∃ V : List Int, gh = zeros V ∧ Asg wr w.heap.size (.pointer (some ⟨p, 0, none⟩)) p q V ∧ Drv xss ds V ∧ (∀ l ∈ ds, valL V l = 1) ∧ V.length = L ∧ Below w.heap.size w wr)
      case atStart => exact ⟨V, rfl, HA.out, HDR.out, HSA.out, HVL.out, HBW.out⟩
      case round =>
        obtain ⟨V1, rfl, hA, hdr, hsa, hVL, hb⟩ := hrel
        clear HA HDR HSA HVL HBW
        have HA := Lib.hid hA
        have HDR := Lib.hid hdr
        have HSA := Lib.hid hsa
        have HVL := Lib.hid hVL
        have HBW := Lib.hid hb
        clear hA hdr hsa hVL hb
        go_wp2_with fail
        go_loopw [10, 11, 12, 13] (fun mv i _ _ wr => ∃ (k : Nat) (V2 : List Int) (mo : Bool), k ≤ N ∧ i = .int .i64 (k : Int) ∧ mv = .bool mo ∧ Asg wr w.heap.size (.pointer (some ⟨p, 0, none⟩)) p q V2 ∧ Drv xss ds V2 ∧ (∀ l ∈ ds, valL V2 l = 1) ∧ V2.length = L ∧ Below w.heap.size w wr ∧ Hid (mo = true → zeros V2 < zeros V1) ∧ Hid (mo = false → V2 = V1 ∧ ∀ j, j < k → (clauseL V1 (xss.getD j [])).1 ≠ 2 ∧ (clauseL V1 (xss.getD j [])).2 = 0)) (fun _ i _ _ _ => N - (intOf i).toNat)
        case atStart => exact ⟨0, V1, false, Nat.zero_le _, rfl, rfl, HA.out, HDR.out, HSA.out, HVL.out, HBW.out, Lib.hid (fun h => by cases h), Lib.hid (fun _ => ⟨rfl, fun j hj => absurd hj (Nat.not_lt_zero _)⟩)⟩
        case round =>
          obtain ⟨k, V2, mo, hk, rfl, rfl, hA, hdr, hsa, hVL, hb, HM1, HM2⟩ := hrel
          clear HA HDR HSA HVL HBW
          have HA := Lib.hid hA
          have HDR := Lib.hid hdr
          have HSA := Lib.hid hsa
          have HVL := Lib.hid hVL
          have HBW := Lib.hid hb
          clear hA hdr hsa hVL hb
          by_cases hlt : k < N
          · obtain ⟨b, off, ha, hbl, hc⟩ := HR.out.resolve_left (by omega)
            subst ha
            obtain ⟨v, y0', hv⟩ := hc k hlt
            have y0 := (HBW.out.cell (p := ⟨b, off + k, none⟩) hbl).trans y0'
            have hvr : Row wr v (xss.getD k []) := hv.keep (HBW.out.mono (Nat.le_refl _))
            have hmem : xss.getD k [] ∈ xss := by simp [List.getD, show k < xss.length by rw [HN.out]; exact hlt]
            have HMEM := Lib.hid hmem
            have hrt := HC.out _ hmem
            have HCL := Lib.hid (refClause_any HA.out v (xss.getD k []) hvr (rgt_inW hlv hrt) (fun x hx => (rgt_in hlv (hrt x hx)).2.2))
            have HRT := Lib.hid hrt
            have hM2 := HM2.out
            clear hc y0' hv hmem hrt
            generalize hys : xss.getD k [] = ys at *
            have HYS := Lib.hid hys
            clear hys hM2
            obtain ⟨av, cv, rfl, _, _, _⟩ := hvr
            have hthree := clauseL_three V2 ys
            by_cases h2 : (clauseL V2 ys).1 = 2
            · have HWR := Lib.hid (HDR.out.wrong HMEM.out h2)
              rw [h2] at HCL
              clear h2 hthree
              go_wp2_with fail
              refine HCL.out.mono ?_
              rintro e w2 ⟨rfl, t2, rfl⟩
              go_wp2_with fail
              go_ret2
              exact ⟨.inr ⟨rfl, HWR.out⟩, below_drewN HBW.out _⟩
            · by_cases ho : (clauseL V2 ys).2 = 0
              · have HM2' : Hid (mo = false → V2 = V1 ∧ ∀ j, j < k + 1 → (clauseL V1 (xss.getD j [])).1 ≠ 2 ∧ (clauseL V1 (xss.getD j [])).2 = 0) := fun hm => by
                  obtain ⟨e, hj⟩ := HM2.out hm
                  refine ⟨e, fun j hjk => ?_⟩
                  by_cases ej : j = k
                  · rw [ej, HYS.out, ← e]; exact ⟨h2, ho⟩
                  · exact hj j (by omega)
                rw [ho] at HCL
                generalize (clauseL V2 ys).1 = x at *
                have hx2 : (x == 2) = false := by simp [h2]
                clear ho h2 hthree
                go_wp2_with fail
                refine HCL.out.mono ?_
                rintro e w2 ⟨rfl, t2, rfl⟩
                have HA2 := Lib.hid (HA.out.drewN t2)
                go_wp2_with fail
                go_roundw
                case rel => exact ⟨k + 1, V2, mo, by omega, by go_num, rfl, HA2.out, HDR.out, HSA.out, HVL.out, below_drewN HBW.out _, HM1, HM2'⟩
                case measure => go_light; simp [intOf]; omega
              · obtain ⟨_, f2, f3, _, _⟩ := clauseL_one ho
                have HNX := Lib.hid (HDR.out.next HMEM.out ho)
                have hrl := HRT.out _ f2
                have hrV : 1 ≤ plc (clauseL V2 ys).2 ∧ plc (clauseL V2 ys).2 < V2.length := by rw [HVL.out]; exact hrl
                have hin := rgt_in hlv hrl
                clear f2
                generalize (clauseL V2 ys).2 = o at *
                generalize (clauseL V2 ys).1 = x at *
                have h02 : valL V2 o ≠ 2 := by omega
                have hok : setOk V2 o = true := by unfold setOk; rw [(rightB_iff V2 o).2 hrV, f3]; rfl
                have HDR2 := Lib.hid (HDR.out.set hrV h02 HNX.out)
                have HSA2 : Hid (∀ l ∈ ds, valL (setV V2 o) l = 1) := fun l hl => setV_keep hrV h02 (HSA.out l hl) HDR.out.vals
                have HVL2 : Hid ((setV V2 o).length = L) := by unfold Hid; rw [setV_len, HVL.out]
                have HZ : Hid (zeros (setV V2 o) < zeros V1) := by
                  have hz := zeros_set hrV f3 HDR.out.vals
                  unfold Hid
                  cases hmo : mo with
                  | true => have := HM1.out hmo; omega
                  | false => rw [(HM2.out hmo).1] at hz ⊢; exact hz
                have HSE := Lib.hid (fun t2 => refSet_any (HA.out.drewN t2) o (by omega) (by omega))
                unfold SetPost at HSE
                rw [hok] at HSE
                have hx2 : (x == 2) = false := by simp [h2]
                have ho2 : (o != 0) = true := by simp [ho]
                clear h2 hthree f3 hrl hrV hin h02 hok ho
                go_wp2_with fail
                refine HCL.out.mono ?_
                rintro e w2 ⟨rfl, t2, rfl⟩
                go_wp2_with fail
                refine (HSE.out t2).mono ?_
                rintro e w3 ⟨rfl, hA3, ho3⟩
                have HA3 := Lib.hid hA3
                have HB3 := Lib.hid (ho3.below (below_drewN HBW.out t2) (below_drewN HBW.out t2).size HA.out.bq)
                clear hA3 ho3
                go_wp2_with fail
                go_roundw
                case rel => exact ⟨k + 1, _, true, by omega, by go_num, rfl, HA3.out, HDR2.out, HSA2.out, HVL2.out, HB3.out, Lib.hid (fun _ => HZ.out), Lib.hid (fun h => by cases h)⟩
                case measure => go_light; simp [intOf]; omega
          · have hkn : k = N := by omega
            have e1 : decide ((k : Int) < (N : Int)) = false := decide_eq_false (by omega)
            have e2 : decide (k < N) = false := decide_eq_false hlt
            cases mo with
            | true =>
              have HZ := Lib.hid (HM1.out rfl)
              clear hkn hlt HM1 HM2
              go_wp2_with fail
              go_roundg (zeros V2)
              case measure => exact HZ.out
              case rel => exact ⟨V2, rfl, HA.out, HDR.out, HSA.out, HVL.out, HBW.out⟩
            | false =>
              obtain ⟨hv, hcl⟩ := HM2.out rfl
              have HCLO : Hid (Clo xss ds V2) := { HDR.out with
                start := HSA.out
                cls := fun c hc => by
                  obtain ⟨j, hj, rfl⟩ := List.getElem_of_mem hc
                  have := hcl j (by rw [hkn, ← HN.out]; exact hj)
                  rw [hv]
                  simpa [List.getD, hj] using this }
              have HKN := Lib.hid (refKnown_any HA.out)
              unfold KnownPost at HKN
              clear hkn hlt HM1 HM2 hv hcl
              go_wp2_with fail
              refine HKN.out.mono ?_
              rintro e w2 ⟨o, rfl, ho, hb2⟩
              have HO := Lib.hid (own_base ho HBW.out.size)
              have HB2 := Lib.hid (HBW.out.trans (hb2.mono HBW.out.size))
              clear ho hb2
              go_wp2_with fail
              go_ret2
              exact ⟨.inl ⟨o, V2, rfl, HCLO.out, HVL.out, HO.out⟩, HB2.out⟩
end Go.Proofs.Ytjlmooimdogmjaa

set_option linter.unusedVariables false
set_option linter.unusedSimpArgs false
namespace Go.Proofs.Ytjlmooimdogmjaa
open Go.RowKit

theorem row_take {w : World} {a : Option Addr} {n c : Nat} {xs : List Int} (h : Row w (.slice a n c) xs) {j : Nat} (hj : j ≤ xs.length) : Row w (.slice a j c) (xs.take j) := by
  obtain ⟨a', c', e, h1, h2, h3⟩ := h
  injection e with e1 e2 e3
  subst e1; subst e3
  have hl : (xs.take j).length = j := by simp; omega
  refine ⟨a, c, by rw [hl], by omega, h2, ?_⟩
  rw [hl]
  rcases h3 with h3 | ⟨b, off, e, h4, h5⟩
  · left; omega
  · right
    refine ⟨b, off, e, h4, fun i hi => ?_⟩
    rw [h5 i (by omega)]
    simp [List.getD, List.getElem?_take, hi]
theorem PrW.rea {p : Pr} (h : PrW p) {j : Nat} (hj : j < p.tr.length) : reaP p (absI (p.tr.getD j 0)) = p.rs.getD j (-1) := by
  unfold reaP
  have e : (absI (p.tr.getD j 0)).toNat = plc (p.tr.getD j 0) := rfl
  rw [e, h.pos hj]

end Go.Proofs.Ytjlmooimdogmjaa

set_option linter.unusedVariables false
set_option linter.unusedSimpArgs false
namespace Go.Proofs.Ytjlmooimdogmjaa
open Go.RowKit Go.Maps

/-- Of a literal that is false: its bounds. -/
theorem AllF.bd {p : Pr} (hw : PrW p) {c : List Int} (h : AllF p c) {l : Int} (hl : l ∈ c) : (-4000 ≤ l ∧ l ≤ 4000) ∧ (1 ≤ absI l ∧ absI l ≤ 4000) ∧ valP p l = 2 ∧ 0 ≤ levP p (absI l) ∧ levP p (absI l) ≤ 4001 := by
  obtain ⟨i, hi, _, h3, h4⟩ := h.lev hw hl
  have h1 := hw.rgt _ (h l hl)
  rw [plc_negate] at h1
  have h2 := plc_absI l
  have hn := hw.n
  have h5 : absI l = l ∨ absI l = -l := by unfold absI; split <;> simp
  have h6 := lvI_le (p := p) i
  have h7 := hw.tr_len
  have h8 : p.st.length ≤ p.tr.length := by
    have hs : p.st.Nodup := hw.sorted.imp fun hab => Nat.ne_of_lt hab
    have hsub : ∀ s ∈ p.st, s ∈ List.range p.tr.length := fun s hs => List.mem_range.2 (hw.lt s hs)
    have := hs.length_le_of_subset hsub
    rwa [List.length_range] at this
  refine ⟨by omega, by omega, hw.val_false.2 (h l hl), ?_, ?_⟩
  · rw [← h2, h4]; omega
  · rw [← h2, h4]
    omega

set_option maxHeartbeats 2000000 in
theorem allF_any {v : Value} {S : List Nat} {p : Pr} (w : World) (hs : PrS w v S p) (u : Value) (c : List Int) (hu : Row w u c) (hf : AllF p c) :
    Calls Try.prog 32 #[v, u] w fun e w' => e = .returned (.bool true) ∧ w = w' := by
  have HV : Hid (∀ l ∈ c, valP p l = 2 ∧ -9223372036854775807 ≤ l ∧ l ≤ 9223372036854775807) := fun l hl => by
    have := hf.bd hs.wf hl
    exact ⟨this.2.2.1, by omega, by omega⟩
  have HS := Lib.hid hs
  obtain ⟨q, rfl⟩ := hs.ptr
  obtain ⟨a, cc, rfl, hu1, hu2, hu3⟩ := hu
  unfold maxLen at hu2
  have HX := Lib.hid hu3
  clear hs hf hu3
  generalize hL : c.length = L at *
  have HL := Lib.hid hL; clear hL
  go_enter Try.func32, Try.ntmps32
  go_wp2_with fail
  go_loopw [6, 9] (fun _ i W => ∃ j : Nat, j ≤ L ∧ i = .int .i64 (j : Int) ∧ W = w) (fun _ i _ => L - (intOf i).toNat)
  case atStart => exact ⟨0, Nat.zero_le _, rfl, rfl⟩
  case round =>
    obtain ⟨j, hj, rfl, rfl⟩ := hrel
    by_cases hlt : j < L
    · obtain ⟨b, off, ha, hbl, hcell⟩ := HX.out.resolve_left (by omega)
      subst ha
      have y0 := hcell j hlt
      have hv := HV.out (c.getD j 0) (getD_mem (by rw [HL.out]; exact hlt))
      clear hcell
      generalize c.getD j 0 = l at *
      have HVV := Lib.hid (pval_any wr HS.out l hv.2.1 hv.2.2)
      rw [hv.1] at HVV
      clear hv
      go_wp2_with fail
      refine HVV.out.mono ?_
      rintro e w2 ⟨rfl, rfl⟩
      go_wp2_with fail
      go_roundw
      case rel => exact ⟨j + 1, by omega, by go_num, by first | trivial | rfl⟩
      case measure => go_light; simp [intOf]; omega
    · have e1 : decide ((j : Int) < (L : Int)) = false := decide_eq_false (by omega)
      have e2 : decide (j < L) = false := decide_eq_false hlt
      clear hlt
      go_wp2_with fail
      go_ret
      first | exact ⟨rfl, rfl⟩ | exact ⟨trivial, rfl⟩ | trivial

set_option maxHeartbeats 2000000 in
theorem great_any {v : Value} {S : List Nat} {p : Pr} (w : World) (hs : PrS w v S p) (u : Value) (c : List Int) (hu : Row w u c) (hf : AllF p c) :
    Calls Try.prog 33 #[v, u] w fun e w' => e = .returned (.int .i64 (topL p c)) ∧ w = w' := by
  have HV : Hid (∀ l ∈ c, -9223372036854775807 ≤ l ∧ l ≤ 9223372036854775807 ∧ 0 ≤ absI l ∧ absI l ≤ 4000 ∧ 0 ≤ levP p (absI l) ∧ levP p (absI l) ≤ 4001) := fun l hl => by
    have := hf.bd hs.wf hl
    exact ⟨by omega, by omega, by omega, by omega, this.2.2.2.1, this.2.2.2.2⟩
  have HT : Hid (∀ j, j < c.length → topL p (c.take (j + 1)) = max (topL p (c.take j)) (levP p (absI (c.getD j 0)))) := fun j hj => by
    rw [take_snoc c j hj, topL_snoc, plc_absI]
  have HE : Hid (topL p (c.take c.length) = topL p c) := by unfold Hid; rw [List.take_length]
  have HS := Lib.hid hs
  obtain ⟨q, rfl⟩ := hs.ptr
  obtain ⟨a, cc, rfl, hu1, hu2, hu3⟩ := hu
  unfold maxLen at hu2
  have HX := Lib.hid hu3
  clear hs hf hu3
  generalize hL : c.length = L at *
  have HL := Lib.hid hL; clear hL
  go_enter Try.func33, Try.ntmps33
  go_wp2_with fail
  go_loopw [5, 7, 10] (fun t _ i W => ∃ j : Nat, j ≤ L ∧ i = .int .i64 (j : Int) ∧ t = .int .i64 (topL p (c.take j)) ∧ W = w) (fun _ _ i _ => L - (intOf i).toNat)
  case atStart => exact ⟨0, Nat.zero_le _, rfl, rfl, rfl⟩
  case round =>
    obtain ⟨j, hj, rfl, rfl, rfl⟩ := hrel
    by_cases hlt : j < L
    · obtain ⟨b, off, ha, hbl, hcell⟩ := HX.out.resolve_left (by omega)
      subst ha
      have y0 := hcell j hlt
      obtain ⟨v1, v2, v3, v4, v5, v6⟩ := HV.out (c.getD j 0) (getD_mem (by rw [HL.out]; exact hlt))
      have ht := HT.out j hlt
      clear hcell
      generalize c.getD j 0 = l at *
      have HVA := Lib.hid (var_any l wr v1 v2)
      have HVV := Lib.hid (plev_any wr HS.out (absI l) (by omega) (by omega))
      generalize absI l = al at *
      generalize levP p al = lv at *
      obtain ⟨t1, ht1⟩ : ∃ t1, topL p (c.take (j + 1)) = t1 := ⟨_, rfl⟩
      generalize topL p (c.take j) = t0 at *
      have HT1 := Lib.hid ht1
      clear ht1
      have HTT := Lib.hid ht
      clear ht v1 v2 v3 v4
      go_wp2_with fail
      refine HVA.out.mono ?_
      rintro e w2 ⟨rfl, rfl⟩
      go_wp2_with fail
      refine HVV.out.mono ?_
      rintro e w2 ⟨rfl, rfl⟩
      go_wp2_with fail
      go_roundw
      case rel => exact ⟨j + 1, by omega, by go_num, by rw [HTT.out], by first | trivial | rfl⟩
      case measure => go_light; simp [intOf]; omega
    · have e1 : decide ((j : Int) < (L : Int)) = false := decide_eq_false (by omega)
      have e2 : decide (j < L) = false := decide_eq_false hlt
      have hjl : j = L := by omega
      have HEE : Hid (topL p (c.take j) = topL p c) := by rw [hjl]; exact HE
      clear hlt hjl
      obtain ⟨t0, ht0⟩ : ∃ t0, topL p (c.take j) = t0 := ⟨_, rfl⟩
      rw [ht0] at HEE ⊢
      clear ht0
      go_wp2_with fail
      go_ret
      exact ⟨by simp [HEE.out], rfl⟩

end Go.Proofs.Ytjlmooimdogmjaa
