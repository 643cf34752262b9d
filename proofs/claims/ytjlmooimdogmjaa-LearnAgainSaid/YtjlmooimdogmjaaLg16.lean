/- What prop's tell, settle and Propagate keep, purely: the beginning and the end of tell, another literal that watches, settle. No conditions beyond those typed. -/
import Derived.Test.YtjlmooimdogmjaaLg15
set_option linter.unusedVariables false
set_option linter.unusedSimpArgs false
namespace Go.Proofs.Ytjlmooimdogmjaa
open Go.RowKit

section
variable {m : Mc} {x : Int} {rest wrong : List Nat}
/-- Where tell begins. -/
theorem TI.start (h : McI m) (ht : m.told < m.tr.length) : TI { m with told := m.told + 1 } (-(m.tr.getD m.told 0)) (m.wt (wx (-(m.tr.getD m.told 0)))) [] where
  w := { h.w with told := ht }
  l := h.l.congr (fun _ => Iff.rfl) rfl rfl rfl rfl (fun _ hl => hl)
  r := h.r
  t0 := Nat.succ_pos _
  tx := by show m.tr.getD (m.told + 1 - 1) 0 = _; rw [Nat.add_sub_cancel, Int.neg_neg]
  rn := h.l.wtN _
  rin := fun i hi => hi
  wn := by simp
  win := fun i hi => by simp at hi
  s := fun i h1 _ => by
    have hs := h.s i h1
    by_cases hm : i ∈ m.wt (wx (-(m.tr.getD m.told 0)))
    · rw [if_pos hm]
      show Sm _ (m.told + 1 - 1) i
      rw [Nat.add_sub_cancel]
      exact hs
    · rw [if_neg hm]
      show Sm _ (m.told + 1) i
      intro c hc
      have hs' := hs c hc
      have key : ∀ y : Int, y ≠ -(m.tr.getD m.told 0) → (-y ∈ m.tr.take (m.told + 1) ↔ -y ∈ m.tr.take m.told) := fun y hy => by
        constructor
        · intro hmm
          obtain ⟨p, hp, hpt, e⟩ := tr_of_take hmm
          rcases Nat.lt_or_ge p m.told with h2 | h2
          · exact e ▸ tr_mem_take hp h2
          · exfalso
            have : p = m.told := by omega
            subst this
            exact hy (by omega)
        · intro hmm
          obtain ⟨p, hp, hpt, e⟩ := tr_of_take hmm
          exact e ▸ tr_mem_take hp (by omega)
      match c, hs', hc with
      | [a], hs', _ => exact hs'
      | a :: b :: r, ⟨k1, k2, k3⟩, hc =>
        have hw := (h.l.wtd i _ hc h1).2 a b r rfl
        have ha : a ≠ -(m.tr.getD m.told 0) := fun e => hm (e ▸ hw.1)
        have hb : b ≠ -(m.tr.getD m.told 0) := fun e => hm (e ▸ hw.2)
        exact ⟨fun hmm => k1 ((key a ha).1 hmm), k2.trans (by show _ ↔ (-b ∈ m.tr.take (m.told + 1) ∧ _); rw [key b hb]), fun hmm => k3 ((key b hb).1 hmm)⟩
/-- Where it ends. -/
theorem TI.done (h : TI m x [] wrong) : McI (looM m wrong) := by
  have h1 : ∀ i ∈ wrong, i ∉ m.td := fun i hi => (h.win i hi).1
  have h2 : ∀ i ∈ wrong, ∃ c, m.cl i = some c := fun i hi => by obtain ⟨_, _, c, hc, _⟩ := h.win i hi; exact ⟨c, hc⟩
  have he := looM_eq h.l h1 h2
  have hL := h.l.loosen h.wn h1 h2
  refine { w := by rw [he]; exact h.w.lists, l := ?_, s := fun i hi => ?_, r := fun i hi v => ?_ }
  · exact hL.congr (fun i => by show _ ↔ i ∈ m.td ++ wrong; rw [List.mem_append]) rfl rfl rfl rfl (fun _ hl => hl)
  · have hi' : i ∉ m.td ++ wrong := hi
    rw [List.mem_append, not_or] at hi'
    have hs := h.s i hi'.1 hi'.2
    rw [if_neg (by simp)] at hs
    have ht : (looM m wrong).told = m.told := by rw [he]
    rw [ht]
    exact hs.loosen h.l h1 h2 hi'.2
  · have hr : (looM m wrong).rs = m.rs := by rw [he]
    rw [hr]
    have hi' : i ∈ m.td ++ wrong := hi
    rw [List.mem_append] at hi'
    rcases hi' with hi' | hi'
    · exact h.r i hi' v
    · obtain ⟨k1, _, c, hc, hf⟩ := h.win i hi'
      have hne := (h.l.wtd i c hc k1).1
      match c, hne, hc, hf with
      | a :: r, _, hc, hf => exact h.w.not_rs hc (fun ha => h.w.nb ha (hf a (by simp))) v
theorem looM_x (h : TI m x [] wrong) : McX m (looM m wrong) := by
  have h1 : ∀ i ∈ wrong, i ∉ m.td := fun i hi => (h.win i hi).1
  have h2 : ∀ i ∈ wrong, ∃ c, m.cl i = some c := fun i hi => by obtain ⟨_, _, c, hc, _⟩ := h.win i hi; exact ⟨c, hc⟩
  rw [looM_eq h.l h1 h2]
  exact McX.of rfl rfl rfl rfl rfl rfl rfl
/-- Another literal is watched from now on. -/
theorem TI.rew {i : Nat} (h : TI m x (i :: rest) wrong) {a : Int} {r : List Int} (hc : m.cl i = some (a :: x :: r)) {j : Nat} (hj : 2 ≤ j) (hjl : j < (a :: x :: r).length) (hv : valL m.vs ((a :: x :: r).getD j 0) ≠ 2) {W' : List Nat} (hL : ∀ y, y ∈ W' ↔ y ∈ m.wt (wx x) ∧ y ≠ i) (hN : W'.Nodup) :
    TI { putCl m i (swapL (a :: x :: r) 1 j) with wt := upd (upd m.wt (wx x) W') (wx ((a :: x :: r).getD j 0)) (m.wt (wx ((a :: x :: r).getD j 0)) ++ [i]) } x rest wrong := by
  obtain ⟨h1, h2⟩ := h.now (by simp) hc
  obtain ⟨n1, n2, _⟩ := h.head (i := i) (by simp)
  obtain ⟨q, rfl⟩ : ∃ q, j = q + 2 := ⟨j - 2, by omega⟩
  have hq : q < r.length := by simp at hjl; omega
  have ey : (a :: x :: r).getD (q + 2) 0 = r.getD q 0 := by simp [List.getD]
  rw [ey] at hv ⊢
  obtain ⟨y, hy⟩ : ∃ y, r.getD q 0 = y := ⟨_, rfl⟩
  rw [hy] at hv ⊢
  have hym : y ∈ r := by rw [← hy]; exact getD_mem hq
  have esw : swapL (a :: x :: r) 1 (q + 2) = a :: y :: r.set q x := by
    unfold swapL
    rw [ey, hy]
    simp [List.getD]
  rw [esw]
  have hnd := (h.w.cls i _ hc).2.1
  have hop := (h.w.cls i _ hc).2.2
  have hya : y ≠ a := fun e => by subst e; simp at hnd; exact hnd.1.2 hym
  have hyx : y ≠ x := fun e => by subst e; simp at hnd; exact hnd.2.1 hym
  have hax := (h.w.clsne hc).1
  have hyt : -y ∉ m.tr := fun hm => hv ((h.w.vf y).2 hm)
  have hperm : (a :: y :: r.set q x).Perm (a :: x :: r) := by
    have := swapL_perm (a :: x :: r) (a := 1) (b := q + 2) (by simp) (by simp; omega)
    rwa [esw] at this
  have hwy : i ∉ m.wt (wx y) := fun hm => by
    obtain ⟨_, a', b', r', e1, e2⟩ := h.l.wtc _ i hm
    rw [hc] at e1
    injection e1 with e1
    injection e1 with e3 e1
    injection e1 with e4 _
    subst e3; subst e4
    exact e2.elim (fun e => hya (wx_inj e)) (fun e => hyx (wx_inj e))
  have wne : wx y ≠ wx x := fun e => hyx (wx_inj e)
  have hwt : ∀ v z, z ∈ upd (upd m.wt (wx x) W') (wx y) (m.wt (wx y) ++ [i]) v ↔ (z ∈ m.wt v ∧ ¬(z = i ∧ v = wx x)) ∨ (z = i ∧ v = wx y) := fun v z => by
    unfold upd
    by_cases e1 : v = wx y
    · subst e1
      rw [if_pos rfl, List.mem_append, List.mem_singleton]
      simp [wne]
    · rw [if_neg e1]
      by_cases e2 : v = wx x
      · rw [if_pos e2, hL, e2]
        have wne' : ¬ wx x = wx y := fun e => wne e.symm
        simp [wne']
      · rw [if_neg e2]; simp [e1, e2]
  have hw : McW (Proofs.Ytjlmooimdogmjaa.putCl m i (a :: y :: r.set q x)) := h.w.putCl hc hperm (.inr rfl)
  refine { w := ⟨hw.n, hw.vl, hw.vv, hw.tv, hw.one, hw.told, hw.sorted, hw.lt, hw.lvl, hw.mps, hw.cls, hw.rs0, hw.dec, hw.rsn⟩, l := ?_, r := h.r, t0 := h.t0, tx := h.tx, rn := (List.nodup_cons.1 h.rn).2, rin := fun z hz => ?_, wn := h.wn, win := fun z hz => ?_, s := fun z k1 k2 => ?_ }
  · refine { tdn := h.l.tdn, tdF := fun z hz => ?_, ltN := h.l.ltN, ltc := fun v z hz => ?_, wtN := fun v => ?_, wtc := fun v z hz => ?_, wtd := fun z c hc' hf => ?_ }
    · obtain ⟨k1, c, k2⟩ := h.l.tdF z hz
      exact ⟨k1, c, (upd_ne _ _ (fun e => n1 (by rw [← e]; exact hz))).trans k2⟩
    · obtain ⟨k1, a', r', k2, k3, k4⟩ := h.l.ltc v z hz
      by_cases e : z = i
      · subst e
        rw [hc] at k2
        injection k2 with k2
        injection k2 with e1 _
        subst e1
        exact ⟨k1, a, _, upd_same _ _ _, k3, k4⟩
      · exact ⟨k1, a', r', (upd_ne _ _ e).trans k2, k3, k4⟩
    · show (upd (upd m.wt (wx x) W') (wx y) (m.wt (wx y) ++ [i]) v).Nodup
      unfold upd
      split
      · rw [List.nodup_append]
        exact ⟨h.l.wtN _, by simp, fun z hz u hu e => by simp at hu; subst hu; subst e; exact hwy hz⟩
      · split
        · exact hN
        · exact h.l.wtN v
    · rw [hwt] at hz
      rcases hz with ⟨hz, hz2⟩ | ⟨rfl, rfl⟩
      · obtain ⟨k1, a', b', r', k2, k3⟩ := h.l.wtc v z hz
        by_cases e : z = i
        · subst e
          rw [hc] at k2
          injection k2 with k2
          injection k2 with e1 k2
          injection k2 with e2 _
          subst e1; subst e2
          exact ⟨k1, a, y, _, upd_same _ _ _, k3.elim .inl (fun e => (hz2 ⟨rfl, e⟩).elim)⟩
        · exact ⟨k1, a', b', r', (upd_ne _ _ e).trans k2, k3⟩
      · exact ⟨n1, a, y, _, upd_same _ _ _, .inr rfl⟩
    · by_cases e : z = i
      · subst e
        have hd' : some (a :: y :: r.set q x) = some c := (upd_same m.cl z (some (a :: y :: r.set q x))).symm.trans hc'
        injection hd' with hd'
        subst hd'
        refine ⟨by simp, fun a' b' r' e => ?_⟩
        injection e with e1 e
        injection e with e2 _
        subst e1; subst e2
        have := ((h.l.wtd z _ hc hf).2 a x r rfl).1
        exact ⟨(hwt _ _).2 (.inl ⟨this, fun e => hax (wx_inj e.2)⟩), (hwt _ _).2 (.inr ⟨rfl, rfl⟩)⟩
      · have hd : m.cl z = some c := (upd_ne m.cl (some (a :: y :: r.set q x)) e).symm.trans hc'
        obtain ⟨k1, k2⟩ := h.l.wtd z c hd hf
        exact ⟨k1, fun a' b' r' ec => ⟨(hwt _ _).2 (.inl ⟨(k2 a' b' r' ec).1, fun e' => e e'.1⟩), (hwt _ _).2 (.inl ⟨(k2 a' b' r' ec).2, fun e' => e e'.1⟩)⟩⟩
  · refine (hwt _ _).2 (.inl ⟨h.rin z (by simp [hz]), fun e => ?_⟩)
    exact (List.nodup_cons.1 h.rn).1 (e.1 ▸ hz)
  · obtain ⟨k1, k2, c, k3, k4⟩ := h.win z hz
    have hne : z ≠ i := fun e => k2 (by simp [e])
    exact ⟨k1, fun hm => k2 (by simp [hm]), c, (upd_ne _ _ hne).trans k3, k4⟩
  · obtain ⟨e1, e2⟩ := rest_if (j := z) h.rn (m.told - 1) m.told
    show Sm _ (if z ∈ rest then m.told - 1 else m.told) z
    by_cases e : z = i
    · subst e
      rw [e2]
      intro c hc'
      have hd' : some (a :: y :: r.set q x) = some c := (upd_same m.cl z (some (a :: y :: r.set q x))).symm.trans hc'
      injection hd' with hd'
      subst hd'
      exact ⟨h1, ⟨fun hm => (h2 hm).elim, fun hm => (hyt (List.mem_of_mem_take hm.1)).elim⟩, fun hm => (hyt (List.mem_of_mem_take hm)).elim⟩
    · rw [← e1 e]
      intro c hc'
      exact h.s z k1 k2 c ((upd_ne m.cl (some (a :: y :: r.set q x)) e).symm.trans hc')

/-! ### settle -/
theorem McI.putTd (h : McI m) {i : Nat} {c c' : List Int} (hc : m.cl i = some c) (hi : i ∈ m.td) (hp : c'.Perm c) : McI (putCl m i c') where
  w := h.w.putCl hc hp (.inl (h.r i hi))
  l := h.l.putF hc hi
  s := fun j hj => (h.s j hj).putCl (fun e => hj (e ▸ hi))
  r := h.r
theorem ff_le (h : McW m) (l : Int) : ffM m l ≤ m.st.length + 1 ∧ (valL m.vs l = 2 → ffM m l ≤ m.st.length) ∧ (valL m.vs l ≠ 2 → ffM m l = m.st.length + 1) := by
  have h2 : valL m.vs l = 2 → ffM m l ≤ m.st.length := fun hv => by
    unfold ffM
    rw [if_pos hv]
    obtain ⟨p, hp, e⟩ := tr_mem_pos ((h.vf l).1 hv)
    rw [← plc_ng l, ← e, h.lvl p hp]
    exact List.countP_le_length
  have h3 : valL m.vs l ≠ 2 → ffM m l = m.st.length + 1 := fun hv => by unfold ffM; rw [if_neg hv]
  refine ⟨?_, h2, h3⟩
  by_cases hv : valL m.vs l = 2
  · have := h2 hv; omega
  · rw [h3 hv]; exact Nat.le_refl _
/-- Where one of those from p on is false that is false last of them, all are. -/
theorem allF_ff (h : McW m) {c : List Int} {p : Nat} (hm : ∀ j, p ≤ j → j < c.length → ffM m (c.getD j 0) ≤ ffM m (c.getD p 0)) (hv : valL m.vs (c.getD p 0) = 2) : ∀ j, p ≤ j → j < c.length → -(c.getD j 0) ∈ m.tr := fun j h1 h2 => by
  refine (h.vf _).1 (Classical.byContradiction fun hn => ?_)
  have e1 := (ff_le h (c.getD j 0)).2.2 hn
  have e2 := (ff_le h (c.getD p 0)).2.1 hv
  have := hm j h1 h2
  omega
theorem mem_of_getD {c : List Int} {l : Int} (h : l ∈ c) : ∃ j, j < c.length ∧ c.getD j 0 = l := mem_getD h

/-- A clause is watched from now on by two literals that are not false. -/
theorem McI.settle (h : McI m) (ht : m.told = m.tr.length) {td' : List Nat} {i : Nat} (htd : m.td = td' ++ [i]) {c c2 : List Int} (hc : m.cl i = some c) (hp : c2.Perm c) (hb0 : ∀ j, j < c2.length → ffM m (c2.getD j 0) ≤ ffM m (c2.getD 0 0)) (hb1 : ∀ j, 1 ≤ j → j < c2.length → ffM m (c2.getD j 0) ≤ ffM m (c2.getD 1 0)) {b : Bool} {m' : Mc} (hP : SetP m i c2 b m') :
    McX m m' ∧ m'.told = m.told ∧ m'.td = m.td ∧ ((b = false ∧ McI m' ∧ ∃ d, m'.cl i = some d ∧ ∀ l ∈ d, -l ∈ m'.tr) ∨ (b = true ∧ McI { m' with td := td' })) := by
  have hi : i ∈ m.td := by rw [htd]; simp
  have h1 := h.putTd hc hi hp
  have hx1 : McX m (Proofs.Ytjlmooimdogmjaa.putCl m i c2) := McX.putCl hc hp
  have hcl1 : (Proofs.Ytjlmooimdogmjaa.putCl m i c2).cl i = some c2 := putCl_cl _ _ _
  obtain ⟨hnw, hnl⟩ := h.l.cl_of_F hi
  have hnd : td'.Nodup ∧ i ∉ td' := by
    have := h.l.tdn
    rw [htd, List.nodup_append] at this
    exact ⟨this.1, fun hm => this.2.2 i hm i (by simp) rfl⟩
  have hin : ∀ j, j ∉ td' → j ≠ i → j ∉ m.td := fun j k1 k2 hm => by
    rw [htd, List.mem_append, List.mem_singleton] at hm
    exact hm.elim k1 k2
  have hout : ∀ j, j ∈ td' → j ∈ m.td := fun j hj => by rw [htd]; simp [hj]
  unfold SetP at hP
  match c2, hP, hp, hb0, hb1, h1, hx1, hcl1 with
  | [], ⟨hb, hm'⟩, _, _, _, h1, hx1, hcl1 =>
    subst hm'
    exact ⟨hx1, rfl, rfl, .inl ⟨hb, h1, [], hcl1, by simp⟩⟩
  | a :: r, .inl ⟨hv, hb, hm'⟩, _, hb0, _, h1, hx1, hcl1 =>
    subst hm'
    refine ⟨hx1, rfl, rfl, .inl ⟨hb, h1, a :: r, hcl1, fun l hl => ?_⟩⟩
    obtain ⟨j, hj, rfl⟩ := mem_of_getD hl
    exact allF_ff h.w (p := 0) (fun j _ hj => hb0 j hj) hv j (Nat.zero_le _) hj
  | [a], .inr ⟨hv, hb, hm'⟩, _, _, _, h1, hx1, hcl1 =>
    have S := onlyM_spec h1.w hcl1 hv (by simp) 0 h1.l.ltN (hnl _)
    have hx2 := McX.only (o := 0) h1.w hcl1 hv
    have hm2 : m' = onlyM (Proofs.Ytjlmooimdogmjaa.putCl m i [a]) i a 0 := hm'
    rw [← hm2] at S hx2
    refine ⟨hx1.trans hx2, S.told, S.td, .inr ⟨hb, ?_⟩⟩
    obtain ⟨e, he⟩ := S.tr
    refine { w := S.w.lists, l := ?_, s := fun j hj => ?_, r := fun j hj v hk => ?_ }
    · refine { tdn := hnd.1, tdF := fun j hj => ⟨hj, ?_⟩, ltN := S.ltN, ltc := fun v j hj => ?_, wtN := fun j => by show (m'.wt j).Nodup; rw [S.wt]; exact h1.l.wtN j, wtc := fun v j hj => ?_, wtd := fun j d hd hf => ?_ }
      · have : m'.cl j = (Proofs.Ytjlmooimdogmjaa.putCl m i [a]).cl j := by rw [S.cl]
        show ∃ c, m'.cl j = some c
        rw [this]
        exact (h1.l.tdF j (hout j hj)).2
      · have hj' : j ∈ m'.lt v := hj
        rw [S.lt] at hj'
        show j ∉ td' ∧ ∃ a r, m'.cl j = some (a :: r) ∧ plc a = v ∧ a ∈ m'.tr
        rw [S.cl]
        rcases hj' with hj' | ⟨rfl, rfl, _⟩
        · obtain ⟨k1, a', r', k2, k3, k4⟩ := h1.l.ltc v j hj'
          exact ⟨fun hm => k1 (hout j hm), a', r', k2, k3, by rw [he]; exact List.mem_append_left _ k4⟩
        · exact ⟨hnd.2, a, [], hcl1, rfl, S.mem⟩
      · have hj' : j ∈ m'.wt v := hj
        rw [S.wt] at hj'
        show j ∉ td' ∧ ∃ a b r, m'.cl j = _ ∧ _
        rw [S.cl]
        obtain ⟨k1, k2⟩ := h1.l.wtc v j hj'
        exact ⟨fun hm => k1 (hout j hm), k2⟩
      · have hd' : m'.cl j = some d := hd
        rw [S.cl] at hd'
        show d ≠ [] ∧ ∀ a b r, d = a :: b :: r → j ∈ m'.wt (wx a) ∧ j ∈ m'.wt (wx b)
        rw [S.wt]
        by_cases ej : j = i
        · subst ej
          rw [hcl1] at hd'
          injection hd' with hd'
          subst hd'
          exact ⟨by simp, fun _ _ _ e => by simp at e⟩
        · exact h1.l.wtd j d hd' (hin j hf ej)
    · have ht' : ({ m' with td := td' } : Mc).told = m.told := S.told
      rw [ht']
      by_cases ej : j = i
      · subst ej
        intro d hd
        have hd' : m'.cl j = some d := hd
        rw [S.cl, hcl1] at hd'
        injection hd' with hd'
        subst hd'
        refine ⟨S.mem, ?_⟩
        show j ∈ m'.lt (plc a) ↔ 0 < m'.lv (plc a)
        rw [S.lt]
        exact ⟨fun hm => hm.elim (fun hm => (hnl _ hm).elim) (fun hm => hm.2.2), fun hm => .inr ⟨rfl, rfl, hm⟩⟩
      · exact (S.sm m.told j (by show m.told ≤ m.tr.length; omega) ej (h1.s j (hin j hj ej))).lt' (wt := m'.wt) (lt := m'.lt) (td := td') (fun v => Iff.rfl)
    · rcases S.rs v j hk with hk | rfl
      · exact h1.r j (hout j hj) v hk
      · exact hnd.2 hj
  | a :: y :: r, .inr ⟨hv, hb, hm'⟩, _, _, hb1, h1, hx1, hcl1 =>
    obtain ⟨n1, n2, n3⟩ := h1.w.clsne hcl1
    -- watched by both
    have hwt : ∀ v z, z ∈ (wat (wat (Proofs.Ytjlmooimdogmjaa.putCl m i (a :: y :: r)) i a) i y).wt v ↔ z ∈ m.wt v ∨ (z = i ∧ (v = wx a ∨ v = wx y)) := fun v z => by
      have wne : wx y ≠ wx a := fun e => n1 (wx_inj e).symm
      show z ∈ upd (upd m.wt (wx a) (m.wt (wx a) ++ [i])) (wx y) (upd m.wt (wx a) (m.wt (wx a) ++ [i]) (wx y) ++ [i]) v ↔ _
      rw [upd_ne m.wt _ wne]
      unfold upd
      by_cases e1 : v = wx y
      · subst e1; rw [if_pos rfl, List.mem_append, List.mem_singleton]; simp
      · rw [if_neg e1]
        by_cases e2 : v = wx a
        · subst e2; rw [if_pos rfl, List.mem_append, List.mem_singleton]; simp
        · rw [if_neg e2]; simp [e1, e2]
    have hwN : ∀ v, ((wat (wat (Proofs.Ytjlmooimdogmjaa.putCl m i (a :: y :: r)) i a) i y).wt v).Nodup := fun v => by
      have wne : wx y ≠ wx a := fun e => n1 (wx_inj e).symm
      show (upd (upd m.wt (wx a) (m.wt (wx a) ++ [i])) (wx y) (upd m.wt (wx a) (m.wt (wx a) ++ [i]) (wx y) ++ [i]) v).Nodup
      rw [upd_ne m.wt _ wne]
      have hap : ∀ u, (m.wt u ++ [i]).Nodup := fun u => by
        rw [List.nodup_append]
        exact ⟨h.l.wtN u, by simp, fun z hz q hq e => by simp at hq; subst hq; subst e; exact hnw u hz⟩
      unfold upd
      split
      · exact hap _
      · split
        · exact hap _
        · exact h.l.wtN v
    have hw2 : McW (wat (wat (Proofs.Ytjlmooimdogmjaa.putCl m i (a :: y :: r)) i a) i y) := ⟨h1.w.n, h1.w.vl, h1.w.vv, h1.w.tv, h1.w.one, h1.w.told, h1.w.sorted, h1.w.lt, h1.w.lvl, h1.w.mps, h1.w.cls, h1.w.rs0, h1.w.dec, h1.w.rsn⟩
    have hx2 : McX m (wat (wat (Proofs.Ytjlmooimdogmjaa.putCl m i (a :: y :: r)) i a) i y) := hx1.trans (McX.of rfl rfl rfl rfl rfl rfl rfl)
    have hlists : ∀ (m2 : Mc), m2.cl = (Proofs.Ytjlmooimdogmjaa.putCl m i (a :: y :: r)).cl → m2.wt = (wat (wat (Proofs.Ytjlmooimdogmjaa.putCl m i (a :: y :: r)) i a) i y).wt → (∀ l ∈ m.tr, l ∈ m2.tr) → (∀ v, (m2.lt v).Nodup) → (∀ v j, j ∈ m2.lt v → j ∈ m.lt v ∨ (j = i ∧ v = plc a ∧ a ∈ m2.tr)) → McL { m2 with td := td' } (· ∈ td') := fun m2 e1 e2 e3 e4 e5 => by
      refine { tdn := hnd.1, tdF := fun j hj => ⟨hj, ?_⟩, ltN := e4, ltc := fun v j hj => ?_, wtN := fun v => by show (m2.wt v).Nodup; rw [e2]; exact hwN v, wtc := fun v j hj => ?_, wtd := fun j d hd hf => ?_ }
      · show ∃ c, m2.cl j = some c
        rw [e1]
        exact (h1.l.tdF j (hout j hj)).2
      · show j ∉ td' ∧ ∃ a r, m2.cl j = some (a :: r) ∧ plc a = v ∧ a ∈ m2.tr
        rw [e1]
        rcases e5 v j hj with hj' | ⟨rfl, rfl, ha⟩
        · obtain ⟨k1, a', r', k2, k3, k4⟩ := h1.l.ltc v j hj'
          exact ⟨fun hm => k1 (hout j hm), a', r', k2, k3, e3 _ k4⟩
        · exact ⟨hnd.2, a, _, hcl1, rfl, ha⟩
      · have hj' : j ∈ m2.wt v := hj
        rw [e2, hwt] at hj'
        show j ∉ td' ∧ ∃ a b r, m2.cl j = _ ∧ _
        rw [e1]
        rcases hj' with hj' | ⟨rfl, hv'⟩
        · obtain ⟨k1, k2⟩ := h1.l.wtc v j hj'
          exact ⟨fun hm => k1 (hout j hm), k2⟩
        · exact ⟨hnd.2, a, y, r, hcl1, hv'⟩
      · have hd' : m2.cl j = some d := hd
        rw [e1] at hd'
        show d ≠ [] ∧ ∀ a b r, d = a :: b :: r → j ∈ m2.wt (wx a) ∧ j ∈ m2.wt (wx b)
        rw [e2]
        by_cases ej : j = i
        · subst ej
          rw [hcl1] at hd'
          injection hd' with hd'
          subst hd'
          refine ⟨by simp, fun a' b' r' e => ?_⟩
          injection e with q1 e
          injection e with q2 _
          subst q1; subst q2
          exact ⟨(hwt _ _).2 (.inr ⟨rfl, .inl rfl⟩), (hwt _ _).2 (.inr ⟨rfl, .inr rfl⟩)⟩
        · obtain ⟨k1, k2⟩ := h1.l.wtd j d hd' (hin j hf ej)
          exact ⟨k1, fun a' b' r' ec => ⟨(hwt _ _).2 (.inl (k2 a' b' r' ec).1), (hwt _ _).2 (.inl (k2 a' b' r' ec).2)⟩⟩
    rcases hm' with ⟨hy, hm'⟩ | ⟨hy, hm'⟩
    · have hf1 : ∀ l ∈ y :: r, -l ∈ m.tr := fun l hl => by
        obtain ⟨j, hj, rfl⟩ := mem_of_getD hl
        have := allF_ff h.w (c := a :: y :: r) (p := 1) hb1 hy (j + 1) (by omega) (by simp at hj ⊢; omega)
        simpa using this
      have S := onlyM_spec hw2 (i := i) (a := a) (r := y :: r) hcl1 hv hf1 (m.lv (plc y)) h1.l.ltN (hnl _)
      have hx3 := McX.only (i := i) (o := m.lv (plc y)) hw2 (a := a) (r := y :: r) hcl1 hv
      rw [← hm'] at S hx3
      refine ⟨hx2.trans hx3, S.told, S.td, .inr ⟨hb, ?_⟩⟩
      obtain ⟨e, he⟩ := S.tr
      have hem : ∀ l ∈ m.tr, l ∈ m'.tr := fun l hl => by rw [he]; exact List.mem_append_left _ hl
      refine { w := S.w.lists, l := hlists m' S.cl S.wt hem S.ltN (fun v j hj => ((S.lt v j).1 hj).imp id (fun k => ⟨k.1, k.2.1, S.mem⟩)), s := fun j hj => ?_, r := fun j hj v hk => ?_ }
      · have ht' : ({ m' with td := td' } : Mc).told = m.told := S.told
        rw [ht']
        by_cases ej : j = i
        · subst ej
          intro d hd
          have hd' : m'.cl j = some d := hd
          rw [S.cl] at hd'
          have hd2 : some (a :: y :: r) = some d := hcl1.symm.trans hd'
          injection hd2 with hd2
          subst hd2
          have htk : m'.tr.take m.told = m.tr := by rw [he]; show (m.tr ++ e).take m.told = _; rw [ht, List.take_left]
          show -a ∉ m'.tr.take m.told ∧ (j ∈ m'.lt (plc a) ↔ -y ∈ m'.tr.take m.told ∧ m'.lv (plc y) < m'.lv (plc a)) ∧ (-y ∈ m'.tr.take m.told → a ∈ m'.tr)
          rw [htk]
          have hay : m'.lv (plc y) = m.lv (plc y) := by rw [← plc_ng y]; exact S.lv _ (hf1 y (by simp))
          refine ⟨fun hm => hv ((h.w.vf a).2 hm), ?_, fun _ => S.mem⟩
          rw [S.lt, hay]
          exact ⟨fun hm => hm.elim (fun hm => (hnl _ hm).elim) (fun hm => ⟨hf1 y (by simp), hm.2.2⟩), fun hm => .inr ⟨rfl, rfl, hm.2⟩⟩
        · have hs := (h1.s j (hin j hj ej))
          have hs2 : Sm (wat (wat (Proofs.Ytjlmooimdogmjaa.putCl m i (a :: y :: r)) i a) i y) m.told j := fun d hd => hs d hd
          exact (S.sm m.told j (by show m.told ≤ m.tr.length; omega) ej hs2).lt' (wt := m'.wt) (lt := m'.lt) (td := td') (fun v => Iff.rfl)
      · rcases S.rs v j hk with hk | rfl
        · exact h1.r j (hout j hj) v hk
        · exact hnd.2 hj
    · rw [hm']
      refine ⟨hx2, rfl, rfl, .inr ⟨hb, ?_⟩⟩
      refine { w := hw2.lists, l := hlists _ rfl rfl (fun _ hl => hl) h1.l.ltN (fun v j hj => .inl hj), s := fun j hj => ?_, r := fun j hj v hk => h1.r j (hout j hj) v hk }
      show Sm _ m.told j
      by_cases ej : j = i
      · subst ej
        intro d hd
        have hd2 : some (a :: y :: r) = some d := hcl1.symm.trans hd
        injection hd2 with hd2
        subst hd2
        exact ⟨fun hm => hv ((h.w.vf a).2 (List.mem_of_mem_take hm)), ⟨fun hm => (hnl _ hm).elim, fun hm => (hy ((h.w.vf y).2 (List.mem_of_mem_take hm.1))).elim⟩, fun hm => (hy ((h.w.vf y).2 (List.mem_of_mem_take hm))).elim⟩
      · have hs := (h1.s j (hin j hj ej))
        exact fun d hd => hs d hd
end
end Go.Proofs.Ytjlmooimdogmjaa
