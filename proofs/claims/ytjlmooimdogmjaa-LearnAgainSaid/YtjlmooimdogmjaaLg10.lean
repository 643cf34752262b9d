/- Contracts of prop's set, watch, swap. Conditions: the prop lies in memory as 'MA' says; its numbers are small. · The contract of prop's swap. Conditions: the prop lies in memory as 'MA' says. · The contract of prop's only. Conditions: the prop lies in memory as 'MA' says; its numbers are small. -/
import Derived.Test.YtjlmooimdogmjaaLg09
import Derived.BigRegion
import Derived.Deep.CutBlock
import Derived.Deep.DeepCutAuto
set_option linter.unusedVariables false
set_option linter.unusedSimpArgs false
namespace Go.Proofs.Ytjlmooimdogmjaa
open Go.RowKit

theorem infoPc : (Try.prog.info? 68).map (fun i => (i.zero, i.size, i.bytes)) = some (some (.pointer none), 1, 8) := by kernel_rfl
section
variable {w : World} {ρ : Nat → Option Rl} {L : Lay} {m : Mc}

theorem ptrO_shape (L : Lay) (r : Option Nat) : ∃ a, ptrO L r = .pointer a := by
  cases r with
  | none => exact ⟨_, rfl⟩
  | some i => exact ⟨_, rfl⟩

set_option maxRecDepth 8000 in
set_option maxHeartbeats 2000000 in
theorem mset_any (h : MA w ρ L m) (l : Int) (r : Option Nat) (hl : plc l ≤ m.n) (hn : m.n ≤ 4000) (ht : m.tr.length ≤ 4000) (hs : m.st.length ≤ 4000) :
    Calls Try.prog 59 #[ptrP L, .int .i64 l, ptrO L r] w fun e w' => e = .returned (.tuple #[]) ∧ ∃ ρ', Chr ρ w ρ' w' ∧ ∃ v, MA w' ρ' { L with trv := v } (setM m l r) := by
  have e := plc_abs l
  have hb : -4000 ≤ l ∧ l ≤ 4000 := by unfold absI at e; split at e <;> omega
  have HS := Lib.hid (set_any h.asg l (by omega) (by omega))
  have HA := Lib.hid h
  have c0 := h.pc.c0
  clear h e
  unfold ptrP
  obtain ⟨pr, hpr⟩ := ptrO_shape L r
  have HPR := Lib.hid hpr
  rw [hpr]
  clear hpr
  go_enter Try.func59, Try.ntmps59
  go_wp2_with fail
  refine HS.out.mono ?_
  rintro e w1 ⟨rfl, ha, ho⟩
  have HM1 := Lib.hid (HA.out.asgSet ho ha)
  have HC1 := Lib.hid (Chr.of_only (HA.out.at' .a).2.1 ho)
  have HO := Lib.hid (mof_any HM1.out l hl hn)
  clear HS c0 ha ho
  go_wp2_with fail
  refine HO.out.mono ?_
  rintro e w2 ⟨rfl, t, rfl⟩
  have HM2 := Lib.hid (HM1.out.drewN t)
  have HL := Lib.hid (mlvl_any HM2.out)
  have g0 := HM2.out.var (v := plc l) (k := 0) hl (by omega)
  rw [Nat.add_zero] at g0
  have g1 := HM2.out.var (v := plc l) (k := 1) hl (by omega)
  have f0 := HM2.out.varF (plc l * 5)
  have f1 := HM2.out.varF (plc l * 5 + 1)
  have hlt := HM2.out.lt _ _ HM2.out.rv
  clear HO
  go_wp2_with fail
  refine HL.out.mono ?_
  rintro e w3 ⟨rfl, rfl⟩
  have HM3 := Lib.hid ((HM2.out.setLv hl m.st.length).setRs hl r)
  rw [HPR.out] at HM3
  have c2 := HM3.out.pc.c2
  have htr := (HM3.out.at' .tr).1
  rw [List.length_map] at htr
  have HTR := Lib.hid htr
  clear htr HL hlt
  go_wp2_with (at_builtin; refine wpList_appV 22 3 (.int .i64 0) 8 Try.underlying22 infoInt rfl (by decide) rfl _ _ rfl _ 0 L.trv _ _ (.int .i64 l) rfl HTR.out (Nat.zero_le _) (by show m.tr.length < _; omega) _ (by simp) rfl rfl ?_; intro v5 w5 hown5 hap5; obtain ⟨a5, k5, rfl, _⟩ := own_shape hown5; rw [show m.tr.map (Value.int .i64) ++ [Value.int .i64 l] = (m.tr ++ [l]).map (Value.int .i64) by simp] at hown5; obtain ⟨ρ5, hM5, hC5, c2, f2⟩ := HM3.out.trApp hap5 hown5; have HM5 := Lib.hid hM5; have HC5 := Lib.hid hC5; clear hM5 hC5 hown5 hap5)
  (try simp only [Exit.inBlock, Exit.then])
  refine bodyPost_end (results_none rfl _ _ _) rfl ?_
  exact ⟨rfl, ρ5, (((HC1.out.drewN t).setCell HM2.out.rv _).setCell HM2.out.rv _).trans HC5.out, _, HM5.out⟩

/-! ### One more that watches -/
theorem wx_cell (l : Int) : wx l / 2 * 5 + (2 + wx l % 2) = plc l * 5 + (if l < 0 then 3 else 2) := by
  unfold wx; split <;> omega
/-- i is told when l is false. -/
def wat (m : Mc) (i : Nat) (l : Int) : Mc := { m with wt := upd m.wt (wx l) (m.wt (wx l) ++ [i]) }
theorem MA.cells (h : MA w ρ L m) {i : Nat} {c : List Int} (hc : m.cl i = some c) : w.cell? ⟨L.cb i, 0, none⟩ = some (.int .i64 (i : Int)) ∧ w.cell? ⟨L.cb i, 1, none⟩ = some (L.cv i) := by
  have := (h.at' (.c i) c hc).2
  exact ⟨by rw [cell_of_row _ _ 0 _ _ _ this]; rfl, by rw [cell_of_row _ _ 1 _ _ _ this]; rfl⟩
theorem MA.lit (h : MA w ρ L m) {i : Nat} {c : List Int} (hc : m.cl i = some c) : w.ownsRow 0 3 1 (L.cv i) c.length (c.map (Value.int .i64)) := by have := (h.at' (.d i) c hc).1; rwa [List.length_map] at this
theorem MA.lits (h : MA w ρ L m) {i : Nat} {c : List Int} (hc : m.cl i = some c) (h0 : 0 < c.length) : ∃ g k, L.cv i = .slice (some ⟨g, 0, none⟩) c.length k ∧ ρ g = some (.d i) ∧ (∀ j l, c[j]? = some l → w.cell? ⟨g, j, none⟩ = some (.int .i64 l)) ∧ (∀ j, w.frozen? ⟨g, j, none⟩ = false) ∧ c.length ≤ k ∧ k ≤ maxLen := by
  have ho := h.lit hc
  obtain ⟨g, k, e⟩ := own_at ho h0
  have hr := (h.at' (.d i) c hc).2
  rw [e] at ho hr ⊢
  refine ⟨g, k, rfl, hr g rfl, fun j l hj => own_cell ho (by rw [List.getElem?_map, hj]; rfl), fun j => own_frozen ho j, own_cap ho⟩

set_option maxRecDepth 8000 in
set_option maxHeartbeats 2000000 in
theorem mwatch_any (h : MA w ρ L m) (i : Nat) (c : List Int) (k : Nat) (l : Int) (hc : m.cl i = some c) (hk : c[k]? = some l) (hl : plc l ≤ m.n) (hn : m.n ≤ 4000) (hw : (m.wt (wx l)).length ≤ 1000000000) :
    Calls Try.prog 75 #[ptrP L, ptrC L i, .int .i64 (k : Int)] w fun e w' => e = .returned (.tuple #[]) ∧ ∃ ρ', Chr ρ w ρ' w' ∧ ∃ v, MA w' ρ' { L with wv := upd L.wv (wx l) v } (wat m i l) := by
  have hkl : k < c.length := by
    rcases Nat.lt_or_ge k c.length with h' | h'
    · exact h'
    · rw [List.getElem?_eq_none h'] at hk; cases hk
  obtain ⟨g, kc, e, _, hcell, _, hcap, hmax⟩ := h.lits hc (by omega)
  have c1 := (h.cells hc).2
  rw [e] at c1
  have c2 := hcell k l hk
  have HW := Lib.hid (mwat_any h l hl hn)
  have HA := Lib.hid h
  have hcl : c.length ≤ maxLen := Nat.le_trans hcap hmax
  unfold maxLen at hcl
  clear h e hcell hcap hmax
  unfold ptrP
  have HPC : Hid (ptrC L i = .pointer (some ⟨L.cb i, 0, none⟩)) := rfl
  rw [HPC.out]
  go_enter Try.func75, Try.ntmps75
  go_wp2_with fail
  refine HW.out.mono ?_
  rintro e w1 ⟨rfl, t, rfl⟩
  rw [← wx_cell]
  have HM1 := Lib.hid (HA.out.drewN t)
  have hwr := (HM1.out.at' (.w (wx l))).1
  rw [List.length_map] at hwr
  have HWR := Lib.hid hwr
  clear hwr
  have hj : wx l / 2 ≤ m.n := by rw [wx_half]; exact hl
  have c3 : (w.drewN t).cell? ⟨L.vb, wx l / 2 * 5 + (2 + wx l % 2), none⟩ = some (L.wv (wx l)) := by
    obtain ⟨_, _, _, h3, _⟩ := HM1.out.wApp hj (App.refl _) HWR.out
    exact h3
  have HJ := Lib.hid hj
  clear c1 c2 hj
  generalize hX : wx l / 2 * 5 + (2 + wx l % 2) = X at *
  have HX := Lib.hid hX
  clear hX
  go_wp2_with (at_builtin; refine wpList_appV 65 68 (.pointer none) 8 Try.underlying65 infoPc rfl (by decide) rfl _ _ rfl _ 0 (L.wv (wx l)) _ _ (.pointer (some ⟨L.cb i, 0, none⟩)) rfl HWR.out (Nat.zero_le _) (by omega) _ (by simp) rfl rfl ?_; intro v5 w5 hown5 hap5; obtain ⟨a5, k5, rfl, _⟩ := own_shape hown5; rw [show (m.wt (wx l)).map (ptrC L) ++ [.pointer (some ⟨L.cb i, 0, none⟩)] = (m.wt (wx l) ++ [i]).map (ptrC L) by simp [ptrC]] at hown5; obtain ⟨ρ5, hM5, hC5, c2, f2⟩ := HM1.out.wApp HJ.out hap5 hown5; rw [HX.out] at hM5 hC5 c2 f2; have HM5 := Lib.hid hM5; have HC5 := Lib.hid hC5; clear hM5 hC5 hown5 hap5)
  (try simp only [Exit.inBlock, Exit.then])
  refine bodyPost_end (results_none rfl _ _ _) rfl ?_
  exact ⟨rfl, ρ5, ((Chr.refl _ _).drewN t).trans HC5.out, _, HM5.out⟩

end
end Go.Proofs.Ytjlmooimdogmjaa

namespace Go.Proofs.Ytjlmooimdogmjaa
open Go.RowKit

/-- Two literals change places. -/
def swapL (c : List Int) (a b : Nat) : List Int := (c.set a (c.getD b 0)).set b (c.getD a 0)
def putCl (m : Mc) (i : Nat) (c : List Int) : Mc := { m with cl := upd m.cl i (some c) }
theorem putCl_twice (m : Mc) (i : Nat) (c d : List Int) : putCl (putCl m i c) i d = putCl m i d := by
  unfold putCl
  have : upd (upd m.cl i (some c)) i (some d) = upd m.cl i (some d) := by funext j; unfold upd; split <;> rfl
  rw [this]
section
variable {w : World} {ρ : Nat → Option Rl} {L : Lay} {m : Mc}
theorem MA.litSet (h : MA w ρ L m) {i : Nat} {c : List Int} (hc : m.cl i = some c) {g k : Nat} (e : L.cv i = .slice (some ⟨g, 0, none⟩) c.length k) (a : Nat) (x : Int) (ha : a < c.length) :
    MA (w.setCell ⟨g, a, none⟩ (.int .i64 x)) ρ L (putCl m i (c.set a x)) where
  lt := h.lt' (Only.setCell _ _ _ _).size
  hi := h.hi
  at' := fun r => by
    have hg : ρ g = some (.d i) := (h.at' (.d i) c hc).2 g (by rw [e]; rfl)
    have hk : r ≠ .d i → At ρ (w.setCell ⟨g, a, none⟩ (.int .i64 x)) L m r := fun hne => h.rest hg (Only.setCell _ _ _ _) hne
    cases r with
    | c j =>
      intro c' hc'
      by_cases ej : j = i
      · subst ej
        exact hk (by nofun) c hc
      · exact hk (by nofun) c' (by rw [← hc']; exact (upd_ne _ _ ej).symm)
    | d j =>
      intro c' hc'
      by_cases ej : j = i
      · subst ej
        have hc2 : some (c.set a x) = some c' := by rw [← hc']; exact (upd_same _ _ _).symm
        injection hc2 with hc2
        subst hc2
        have ho := h.lit hc
        rw [e] at ho
        have := own_setAt ho a (.int .i64 x) (by rw [List.length_map]; exact ha)
        rw [← List.map_set] at this
        refine ⟨?_, (h.at' (.d j) c hc).2⟩
        rw [List.length_map, List.length_set, e]
        exact this
      · exact hk (fun e' => ej (by injection e')) c' (by rw [← hc']; exact (upd_ne _ _ ej).symm)
    | _ => exact hk (by nofun)

set_option maxRecDepth 8000 in
set_option maxHeartbeats 4000000 in
theorem mswap_any (h : MA w ρ L m) (i : Nat) (c : List Int) (a b : Nat) (hc : m.cl i = some c) (ha : a < c.length) (hb : b < c.length) (hab : a ≠ b) :
    Calls Try.prog 71 #[ptrC L i, .int .i64 (a : Int), .int .i64 (b : Int)] w fun e w' => e = .returned (.tuple #[]) ∧ Chr ρ w ρ w' ∧ MA w' ρ L (putCl m i (swapL c a b)) := by
  obtain ⟨g, k, e, hg, hcell, hfr, hcap, hmax⟩ := h.lits hc (by omega)
  have c1 := (h.cells hc).2
  rw [e] at c1
  have ga := hcell a (c.getD a 0) (by simp [List.getD, ha])
  have gb := hcell b (c.getD b 0) (by simp [List.getD, hb])
  have fa := hfr a
  have fb := hfr b
  have hcl : c.length ≤ maxLen := Nat.le_trans hcap hmax
  unfold maxLen at hcl
  have hlg := h.lt _ _ hg
  have hlc := h.lt _ _ (h.at' (.c i) c hc).1
  have hne : L.cb i ≠ g := fun e' => by
    have h1 := (h.at' (.c i) c hc).1
    rw [e', hg] at h1
    cases h1
  have HF : Hid (∀ wr, wr = (w.setCell ⟨g, a, none⟩ (.int .i64 (c.getD b 0))).setCell ⟨g, b, none⟩ (.int .i64 (c.getD a 0)) → Chr ρ w ρ wr ∧ MA wr ρ L (putCl m i (swapL c a b))) := fun wr e' => by
    subst e'
    refine ⟨(Chr.setCell (Chr.refl _ _) hg _).setCell hg _, ?_⟩
    have h1 := h.litSet hc e a (c.getD b 0) ha
    have h2 := h1.litSet (i := i) (c := c.set a (c.getD b 0)) (upd_same _ _ _) (by rw [List.length_set]; exact e) b (c.getD a 0) (by rw [List.length_set]; exact hb)
    rw [putCl_twice] at h2
    exact h2
  have HPC : Hid (ptrC L i = .pointer (some ⟨L.cb i, 0, none⟩)) := rfl
  rw [HPC.out]
  clear h hcell hfr hcap hmax e hg hc
  generalize c.getD a 0 = x at *
  generalize c.getD b 0 = y at *
  generalize L.cb i = cb at *
  go_enter Try.func71, Try.ntmps71
  go_wp2_with fail
  go_region
  go_wp2_with fail
  (try simp only [Exit.inBlock, Exit.then])
  refine bodyPost_end (results_none rfl _ _ _) rfl ?_
  obtain ⟨h1, h2⟩ := HF.out _ rfl
  exact ⟨rfl, h1.trans (Chr.of_below (Below.refl _ _).drew), h2.below (Below.refl _ _).drew⟩

end
end Go.Proofs.Ytjlmooimdogmjaa

namespace Go.Proofs.Ytjlmooimdogmjaa
open Go.RowKit

/-- The level of the second literal. -/
def othM (m : Mc) : List Int → Nat
  | [] => 0
  | b :: _ => m.lv (plc b)
/-- The first literal is made true, if it is not known. -/
def onlyA (m : Mc) (i : Nat) (a : Int) : Mc := if valL m.vs a = 0 then setM m a (some i) else m
def onlyM (m : Mc) (i : Nat) (a : Int) (o : Nat) : Mc := if o < (onlyA m i a).lv (plc a) then { onlyA m i a with lt := upd (onlyA m i a).lt (plc a) ((onlyA m i a).lt (plc a) ++ [i]) } else onlyA m i a
section
variable {w : World} {ρ : Nat → Option Rl} {L : Lay} {m : Mc}
theorem onlyA_cl (m : Mc) (i : Nat) (a : Int) : (onlyA m i a).cl = m.cl := by unfold onlyA; split <;> rfl
theorem onlyA_n (m : Mc) (i : Nat) (a : Int) : (onlyA m i a).n = m.n := by unfold onlyA; split <;> rfl
theorem onlyA_lt (m : Mc) (i : Nat) (a : Int) : (onlyA m i a).lt = m.lt := by unfold onlyA; split <;> rfl
theorem onlyA_lv (m : Mc) (i : Nat) (a : Int) {v : Nat} (h : v ≠ plc a) : (onlyA m i a).lv v = m.lv v := by
  unfold onlyA
  split
  · exact upd_ne _ _ h
  · rfl
def OnlyA (w : World) (ρ : Nat → Option Rl) (L : Lay) (m1 : Mc) (W : World) : Prop := ∃ ρ1 tv, Chr ρ w ρ1 W ∧ MA W ρ1 { L with trv := tv } m1

set_option maxRecDepth 8000 in
set_option maxHeartbeats 4000000 in
theorem monly_any (h : MA w ρ L m) (i : Nat) (a : Int) (r : List Int) (hc : m.cl i = some (a :: r)) (hl : ∀ x ∈ a :: r, plc x ≤ m.n) (hne : ∀ x ∈ r, plc x ≠ plc a) (hn : m.n ≤ 4000) (ht : m.tr.length ≤ 4000) (hs : m.st.length ≤ 4000) (hw : (m.lt (plc a)).length ≤ 1000000000) :
    Calls Try.prog 73 #[ptrP L, ptrC L i] w fun e w' => e = .returned (.tuple #[]) ∧ ∃ ρ', Chr ρ w ρ' w' ∧ ∃ tv lv, MA w' ρ' { L with trv := tv, lw := upd L.lw (plc a) lv } (onlyM m i a (othM m r)) := by
  have hla := hl a (by simp)
  have ea := plc_abs a
  have hb : -4000 ≤ a ∧ a ≤ 4000 := by unfold absI at ea; split at ea <;> omega
  obtain ⟨g, k, e, _, hcell, _, hcap, hmax⟩ := h.lits hc (by simp)
  have c1 := (h.cells hc).2
  rw [e] at c1
  have c2 := hcell 0 a rfl
  have hcl : (a :: r).length ≤ maxLen := Nat.le_trans hcap hmax
  unfold maxLen at hcl
  have HCV := Lib.hid e
  have HV := Lib.hid (mval_any h a (by omega) (by omega))
  have HA := Lib.hid h
  have HCI := Lib.hid hc
  have HCA : Hid (∀ m1 : Mc, m1.cl = m.cl → ∀ W ρ1 tv, MA W ρ1 { L with trv := tv } m1 → W.cell? ⟨L.cb i, 1, none⟩ = some (.slice (some ⟨g, 0, none⟩) (a :: r).length k) ∧ (∀ j l, (a :: r)[j]? = some l → W.cell? ⟨g, j, none⟩ = some (.int .i64 l))) := fun m1 e1 W ρ1 tv hM => by
    have hc1 : m1.cl i = some (a :: r) := by rw [e1]; exact hc
    have q1 := (hM.cells hc1).2
    obtain ⟨g', k', e', _, q2, _⟩ := hM.lits hc1 (by simp)
    rw [show ({ L with trv := tv } : Lay).cv i = L.cv i from rfl, e] at e' q1
    injection e' with e1 _ e3
    injection e1 with e1
    injection e1 with e1 _ _
    subst e1
    exact ⟨q1, q2⟩
  clear h e hcell hcap hmax hc ea
  unfold ptrP
  have HPC : Hid (ptrC L i = .pointer (some ⟨L.cb i, 0, none⟩)) := rfl
  rw [HPC.out]
  have HLN : Hid ((a :: r).length = r.length + 1) := rfl
  rw [HLN.out] at c1 hcl
  obtain ⟨bv, hbv⟩ : ∃ b, (valL m.vs a == 0) = b := ⟨_, rfl⟩
  have HBV := Lib.hid hbv
  generalize hX : valL m.vs a = x at *
  have HX := Lib.hid hX
  clear hX
  go_enter Try.func73, Try.ntmps73
  go_wp2_with fail
  refine HV.out.mono ?_
  rintro e w1 ⟨rfl, rfl⟩
  go_upto_if 14 with fail
  go_cut [14] (fun b W => b = .bool bv ∧ OnlyA w ρ L (onlyA m i a) W)
  case first =>
    cases bv with
    | true =>
      have HE : Hid (onlyA m i a = setM m a (some i)) := by
        have hz := HBV.out
        unfold Hid onlyA
        rw [HX.out, if_pos (by simpa using hz)]
      have HS := Lib.hid (mset_any HA.out a (some i) hla hn ht hs)
      rw [show ptrO L (some i) = .pointer (some ⟨L.cb i, 0, none⟩) from rfl] at HS
      go_wp2_with fail
      refine HS.out.mono ?_
      rintro e w1 ⟨rfl, ρ1, hC, tv, hM⟩
      have HR : Hid (OnlyA w ρ L (onlyA m i a) w1) := ⟨ρ1, tv, hC, by rw [HE.out]; exact hM⟩
      clear hC hM
      go_wp2_with fail
      go_meet
      exact ⟨rfl, HR.out⟩
    | false =>
      have HE : Hid (onlyA m i a = m) := by
        have hz := HBV.out
        unfold Hid onlyA
        rw [HX.out, if_neg (by simpa using hz)]
      have HR : Hid (OnlyA w ρ L (onlyA m i a) w) := ⟨ρ, L.trv, Chr.refl _ _, by rw [HE.out]; exact HA.out⟩
      go_wp2_with fail
      go_meet
      exact ⟨rfl, HR.out⟩
  case rest =>
    obtain ⟨rfl, ρ1, tv, hC, hM⟩ := hcut
    obtain ⟨q1, q2⟩ := HCA.out _ (onlyA_cl m i a) wc ρ1 tv hM
    have HM : Hid (∀ t, MA (wc.drewN t) ρ1 { L with trv := tv } (onlyA m i a)) := fun t => hM.drewN t
    have HQ2 := Lib.hid q2
    have hla1 : plc a ≤ (onlyA m i a).n := by rw [onlyA_n]; exact hla
    have hn1 : (onlyA m i a).n ≤ 4000 := by rw [onlyA_n]; exact hn
    have HO := Lib.hid (fun t => mof_any (hM.drewN t) a hla1 hn1)
    have g0 := hM.var (v := plc a) (k := 0) hla1 (by omega)
    rw [Nat.add_zero, show vcell ({ L with trv := tv } : Lay) (onlyA m i a) (plc a) 0 = .int .i64 ((onlyA m i a).lv (plc a) : Int) from rfl] at g0
    have HOT : Hid (∀ b r', r = b :: r' → (∀ t, Calls Try.prog 42 #[.pointer (some ⟨L.p, 0, none⟩), .int .i64 b] (wc.drewN t) fun e w' => e = .returned (.pointer (some ⟨L.vb, plc b * 5, none⟩)) ∧ ∃ t', w' = (wc.drewN t).drewN t') ∧ wc.cell? ⟨L.vb, plc b * 5, none⟩ = some (.int .i64 (othM m r : Int)) ∧ wc.cell? ⟨g, 1, none⟩ = some (.int .i64 b)) := fun b r' er => by
      subst er
      have hbn : plc b ≤ (onlyA m i a).n := by rw [onlyA_n]; exact hl b (by simp)
      refine ⟨fun t => mof_any (hM.drewN t) b hbn hn1, ?_, q2 1 b rfl⟩
      have g1 := hM.var (v := plc b) (k := 0) hbn (by omega)
      rw [Nat.add_zero, show vcell ({ L with trv := tv } : Lay) (onlyA m i a) (plc b) 0 = .int .i64 ((onlyA m i a).lv (plc b) : Int) from rfl, onlyA_lv m i a (hne b (by simp))] at g1
      exact g1
    have d2 := q2 0 a rfl
    rw [HLN.out] at q1
    have HC1 := Lib.hid hC
    have HEN : Hid (∀ (W : World) t, W = wc.drewN t → ¬ othM m r < (onlyA m i a).lv (plc a) → ∃ ρ', Chr ρ w ρ' W ∧ ∃ tv lv, MA W ρ' { L with trv := tv, lw := upd L.lw (plc a) lv } (onlyM m i a (othM m r))) := fun W t e hlt => by
      subst e
      refine ⟨ρ1, hC.drewN t, tv, L.lw (plc a), ?_⟩
      unfold onlyM
      rw [if_neg hlt, upd_self]
      exact hM.drewN t
    have HEY : Hid (∀ W ρ' v, othM m r < (onlyA m i a).lv (plc a) → (∃ t, Chr ρ1 (wc.drewN t) ρ' W) → MA W ρ' { L with trv := tv, lw := upd L.lw (plc a) v } { onlyA m i a with lt := upd (onlyA m i a).lt (plc a) ((onlyA m i a).lt (plc a) ++ [i]) } → ∃ ρ', Chr ρ w ρ' W ∧ ∃ tv lv, MA W ρ' { L with trv := tv, lw := upd L.lw (plc a) lv } (onlyM m i a (othM m r))) := fun W ρ' v hlt ⟨t, hc⟩ hm => by
      refine ⟨ρ', (hC.drewN t).trans hc, tv, v, ?_⟩
      unfold onlyM
      rw [if_pos hlt]
      exact hm
    have hwl : ((onlyA m i a).lt (plc a)).length ≤ 1000000000 := by rw [onlyA_lt]; exact hw
    have HCB : Hid (ptrC { L with trv := tv } i = .pointer (some ⟨L.cb i, 0, none⟩)) := rfl
    clear hC hM q2 HCA HV HBV hbv HX c1 c2 HA HCI HCV
    generalize hY : (onlyA m i a).lv (plc a) = y at *
    clear hY
    have HLA := Lib.hid hla1
    clear hla1
    cases r with
    | nil =>
      have hO : othM m [] = 0 := rfl
      rw [hO] at HEN HEY
      have hln : ([] : List Int).length = 0 := rfl
      rw [hln] at q1 hcl HLN
      clear HOT hO hln
      by_cases hlt : 0 < y
      · have hd : decide ((0 : Int) < (y : Int)) = true := decide_eq_true (by omega)
        have hd2 : decide (0 < y) = true := decide_eq_true hlt
        have HLT := Lib.hid hlt
        clear HEN
        go_wp2_with fail
        refine (HO.out 0).mono ?_
        rintro e w2 ⟨rfl, t, rfl⟩
        have HWR := (HM.out t).at' (.l (plc a))
        have hwr := HWR.1
        rw [List.length_map] at hwr
        have HWR := Lib.hid hwr
        have g4 := (HM.out t).var (v := plc a) (k := 4) HLA.out (by omega)
        rw [show vcell ({ L with trv := tv } : Lay) (onlyA m i a) (plc a) 4 = L.lw (plc a) from rfl] at g4
        clear hwr
        go_wp2_with (at_builtin; refine wpList_appV 65 68 (.pointer none) 8 Try.underlying65 infoPc rfl (by decide) rfl _ _ rfl _ 0 (L.lw (plc a)) _ _ (.pointer (some ⟨L.cb i, 0, none⟩)) rfl HWR.out (Nat.zero_le _) (by omega) _ (by simp) rfl rfl ?_; intro v5 w5 hown5 hap5; obtain ⟨a5, k5, rfl, _⟩ := own_shape hown5; rw [show ((onlyA m i a).lt (plc a)).map (ptrC { L with trv := tv }) ++ [.pointer (some ⟨L.cb i, 0, none⟩)] = ((onlyA m i a).lt (plc a) ++ [i]).map (ptrC { L with trv := tv }) by simp [ptrC]] at hown5; obtain ⟨ρ5, hM5, hC5, c5, f5⟩ := (HM.out t).lApp HLA.out hap5 hown5; have HR := Lib.hid (HEY.out _ _ _ HLT.out ⟨_, hC5⟩ hM5); clear hM5 hC5 hown5 hap5)
        (try simp only [Exit.inBlock, Exit.then])
        refine bodyPost_end (results_none rfl _ _ _) rfl ?_
        exact ⟨rfl, HR.out⟩
      · have hd : decide ((0 : Int) < (y : Int)) = false := decide_eq_false (by omega)
        have hd2 : decide (0 < y) = false := decide_eq_false hlt
        have HLT := Lib.hid hlt
        clear HEY
        go_wp2_with fail
        refine (HO.out 0).mono ?_
        rintro e w2 ⟨rfl, t, rfl⟩
        have HR := Lib.hid (HEN.out _ t rfl HLT.out)
        go_wp2_with fail
        (try simp only [Exit.inBlock, Exit.then])
        refine bodyPost_end (results_none rfl _ _ _) rfl ?_
        exact ⟨rfl, HR.out⟩
    | cons b r' =>
      obtain ⟨hob, gb, d3⟩ := HOT.out b r' rfl
      have HOB := Lib.hid hob
      have hln : (b :: r').length = r'.length + 1 := rfl
      rw [hln] at q1 hcl HLN
      clear HOT hob hln
      generalize hO : othM m (b :: r') = o at *
      have HOE := Lib.hid hO
      clear hO
      generalize r'.length = N at *
      by_cases hlt : o < y
      · have hd : decide ((o : Int) < (y : Int)) = true := decide_eq_true (by omega)
        have hd2 : decide (o < y) = true := decide_eq_true hlt
        have HLT := Lib.hid hlt
        clear HEN
        go_wp2_with fail
        refine (HOB.out 0).mono ?_
        rintro e w2 ⟨rfl, t, rfl⟩
        go_wp2_with fail
        refine (HO.out t).mono ?_
        rintro e w2 ⟨rfl, t2, rfl⟩
        rw [World.drewN_drewN]
        have HWR := (HM.out (t + t2)).at' (.l (plc a))
        have hwr := HWR.1
        rw [List.length_map] at hwr
        have HWR := Lib.hid hwr
        have g4 := (HM.out (t + t2)).var (v := plc a) (k := 4) HLA.out (by omega)
        rw [show vcell ({ L with trv := tv } : Lay) (onlyA m i a) (plc a) 4 = L.lw (plc a) from rfl] at g4
        clear hwr
        go_wp2_with (at_builtin; refine wpList_appV 65 68 (.pointer none) 8 Try.underlying65 infoPc rfl (by decide) rfl _ _ rfl _ 0 (L.lw (plc a)) _ _ (.pointer (some ⟨L.cb i, 0, none⟩)) rfl HWR.out (Nat.zero_le _) (by omega) _ (by simp) rfl rfl ?_; intro v5 w5 hown5 hap5; obtain ⟨a5, k5, rfl, _⟩ := own_shape hown5; rw [show ((onlyA m i a).lt (plc a)).map (ptrC { L with trv := tv }) ++ [.pointer (some ⟨L.cb i, 0, none⟩)] = ((onlyA m i a).lt (plc a) ++ [i]).map (ptrC { L with trv := tv }) by simp [ptrC]] at hown5; obtain ⟨ρ5, hM5, hC5, c5, f5⟩ := (HM.out (t + t2)).lApp HLA.out hap5 hown5; have HR := Lib.hid (HEY.out _ _ _ HLT.out ⟨_, hC5⟩ hM5); clear hM5 hC5 hown5 hap5)
        (try simp only [Exit.inBlock, Exit.then])
        refine bodyPost_end (results_none rfl _ _ _) rfl ?_
        exact ⟨rfl, by rw [HOE.out]; exact HR.out⟩
      · have hd : decide ((o : Int) < (y : Int)) = false := decide_eq_false (by omega)
        have hd2 : decide (o < y) = false := decide_eq_false hlt
        have HLT := Lib.hid hlt
        clear HEY
        go_wp2_with fail
        refine (HOB.out 0).mono ?_
        rintro e w2 ⟨rfl, t, rfl⟩
        go_wp2_with fail
        refine (HO.out t).mono ?_
        rintro e w2 ⟨rfl, t2, rfl⟩
        rw [World.drewN_drewN]
        have HR := Lib.hid (HEN.out _ (t + t2) rfl HLT.out)
        go_wp2_with fail
        (try simp only [Exit.inBlock, Exit.then])
        refine bodyPost_end (results_none rfl _ _ _) rfl ?_
        exact ⟨rfl, by rw [HOE.out]; exact HR.out⟩

end
end Go.Proofs.Ytjlmooimdogmjaa
