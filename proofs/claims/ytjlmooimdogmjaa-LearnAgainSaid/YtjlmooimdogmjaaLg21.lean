/- What prop's Back keeps, purely. No conditions beyond those typed. -/
import Derived.Test.YtjlmooimdogmjaaLg17
set_option linter.unusedVariables false
set_option linter.unusedSimpArgs false
namespace Go.Proofs.Ytjlmooimdogmjaa
open Go.RowKit

/-- v stands on the trail from s on, ahead of e. -/
def OnTr (m : Mc) (s e v : Nat) : Prop := ∃ p, s ≤ p ∧ p < e ∧ p < m.tr.length ∧ plc (m.tr.getD p 0) = v
/-- How far Back has come: those of the trail from s on, ahead of e, are gone back on. -/
structure BkI (m : Mc) (s e : Nat) (mj : Mc) : Prop where
  en : mj.n = m.n
  etr : mj.tr = m.tr
  eto : mj.told = m.told
  est : mj.st = m.st
  enx : mj.nx = m.nx
  emp : mj.mp = m.mp
  ecl : mj.cl = m.cl
  elv : mj.lv = m.lv
  vv : Vals mj.vs
  vl : mj.vs.length = m.n + 1
  tv : ∀ l, valL mj.vs l = 1 ↔ l ∈ m.tr ∧ ¬ OnTr m s e (plc l)
  rs1 : ∀ v, OnTr m s e v → mj.rs v = none
  rs2 : ∀ v, ¬ OnTr m s e v → mj.rs v = m.rs v
  l : McL mj (· ∈ mj.td)
  ltp : ∀ v, OnTr m s e v → mj.lt v = []
  ltu : ∀ i, i ∉ mj.td → ∀ v, ¬ OnTr m s e v → (i ∈ mj.lt v ↔ i ∈ m.lt v)
  tdm : ∀ i ∈ m.td, i ∈ mj.td
  tdl : ∀ v, OnTr m s e v → ∀ i ∈ m.lt v, i ∈ mj.td
  td : ∀ i ∈ mj.td, i ∈ m.td ∨ ∃ v, OnTr m s e v ∧ i ∈ m.lt v
section
variable {m mj : Mc} {s e : Nat}
theorem OnTr.none (m : Mc) (s v : Nat) : ¬ OnTr m s s v := fun ⟨_, h1, h2, _⟩ => by omega
theorem OnTr.succ {v : Nat} (hse : s ≤ e) (he : e < m.tr.length) : OnTr m s (e + 1) v ↔ OnTr m s e v ∨ v = plc (m.tr.getD e 0) := by
  constructor
  · rintro ⟨p, h1, h2, h3, h4⟩
    by_cases hp : p = e
    · subst hp; exact .inr h4.symm
    · exact .inl ⟨p, h1, by omega, h3, h4⟩
  · rintro (⟨p, h1, h2, h3, h4⟩ | rfl)
    · exact ⟨p, h1, by omega, h3, h4⟩
    · exact ⟨e, hse, by omega, he, rfl⟩
theorem BkI.start (h : McI m) (s : Nat) : BkI m s s m where
  en := rfl
  etr := rfl
  eto := rfl
  est := rfl
  enx := rfl
  emp := rfl
  ecl := rfl
  elv := rfl
  vv := h.w.vv
  vl := h.w.vl
  tv := fun l => by rw [h.w.tv]; simp [OnTr.none m s]
  rs1 := fun v hv => (OnTr.none m s v hv).elim
  rs2 := fun _ _ => rfl
  l := h.l
  ltp := fun v hv => (OnTr.none m s v hv).elim
  ltu := fun _ _ _ _ => Iff.rfl
  tdm := fun _ hi => hi
  tdl := fun v hv => (OnTr.none m s v hv).elim
  td := fun i hi => .inl hi
/-- One more is taken back: its value, its reason, its list. -/
def bkM (mj : Mc) (v : Nat) : Mc := { mj with vs := unsetV mj.vs (v : Int), rs := upd mj.rs v none, lt := upd mj.lt v [] }
theorem valL_unset {V : List Int} {v : Nat} (h1 : 1 ≤ v) (h2 : v < V.length) (k : Int) : valL (unsetV V (v : Int)) k = if plc k = v then 0 else valL V k := by
  unfold unsetV
  rw [if_pos ⟨by omega, by rw [Int.toNat_natCast]; exact h2⟩, Int.toNat_natCast, valL_set _ _ _ h1 h2]
  split
  · split
    · rfl
    · rfl
  · rfl
theorem BkI.mid (h : BkI m s e mj) (v : Nat) : McL (bkM mj v) (· ∈ mj.td) := by
  refine { h.l with ltN := fun y => ?_, ltc := fun y i hi => ?_ }
  · show (upd mj.lt v [] y).Nodup
    unfold upd; split
    · simp
    · exact h.l.ltN y
  · have hi' : i ∈ upd mj.lt v [] y := hi
    unfold upd at hi'
    split at hi'
    · simp at hi'
    · exact h.l.ltc y i hi'
theorem BkI.step (hw : McW m) (h : BkI m s e mj) (hse : s ≤ e) (he : e < m.tr.length) : BkI m s (e + 1) (looM (bkM mj (plc (m.tr.getD e 0))) (mj.lt (plc (m.tr.getD e 0)))) := by
  obtain ⟨v, hv⟩ : ∃ v, plc (m.tr.getD e 0) = v := ⟨_, rfl⟩
  have hon : ∀ y, OnTr m s (e + 1) y ↔ OnTr m s e y ∨ y = v := fun y => by rw [OnTr.succ hse he, hv]
  rw [hv]
  have hr := hw.rgt (getD_mem' he)
  rw [hv] at hr
  have hnv : ¬ OnTr m s e v := fun ⟨p, h1, h2, h3, h4⟩ => by
    have := hw.at_one h3 he (by rw [h4, hv])
    omega
  have hmid := h.mid v
  have h1 : ∀ i ∈ mj.lt v, i ∉ (bkM mj v).td := fun i hi => (h.l.ltc v i hi).1
  have h2 : ∀ i ∈ mj.lt v, ∃ c, (bkM mj v).cl i = some c := fun i hi => by obtain ⟨_, a, r, hc, _⟩ := h.l.ltc v i hi; exact ⟨_, hc⟩
  have u := unwA_spec (mj.lt v) hmid h1 h2
  have he2 := looM_eq hmid h1 h2
  have hL := hmid.loosen (h.l.ltN v) h1 h2
  have hlt : ∀ y i, i ∈ (looM (bkM mj v) (mj.lt v)).lt y ↔ (y ≠ v ∧ i ∈ mj.lt y) ∧ i ∉ mj.lt v := fun y i => by
    show i ∈ (unwA (bkM mj v) (mj.lt v)).lt y ↔ _
    rw [u.lt]
    show i ∈ upd mj.lt v [] y ∧ _ ↔ _
    unfold upd
    by_cases ey : y = v
    · rw [if_pos ey]; simp [ey]
    · rw [if_neg ey]; simp [ey]
  have htd : ∀ i, i ∈ (looM (bkM mj v) (mj.lt v)).td ↔ i ∈ mj.td ∨ i ∈ mj.lt v := fun i => by
    show i ∈ mj.td ++ mj.lt v ↔ _
    rw [List.mem_append]
  have hvs : (looM (bkM mj v) (mj.lt v)).vs = unsetV mj.vs (v : Int) := by rw [he2]; rfl
  have hrs : (looM (bkM mj v) (mj.lt v)).rs = upd mj.rs v none := by rw [he2]; rfl
  refine { en := by rw [he2]; exact h.en, etr := by rw [he2]; exact h.etr, eto := by rw [he2]; exact h.eto, est := by rw [he2]; exact h.est, enx := by rw [he2]; exact h.enx, emp := by rw [he2]; exact h.emp, ecl := by rw [he2]; exact h.ecl, elv := by rw [he2]; exact h.elv, vv := by rw [hvs]; exact h.vv.unsetV _, vl := by rw [hvs, unsetV_len]; exact h.vl, tv := fun l => ?_, rs1 := fun y hy => ?_, rs2 := fun y hy => ?_, l := ?_, ltp := fun y hy => ?_, ltu := fun i hi y hy => ?_, tdm := fun i hi => (htd i).2 (.inl (h.tdm i hi)), tdl := fun y hy i hi => ?_, td := fun i hi => ?_ }
  · rw [hvs, valL_unset hr.1 (by rw [h.vl]; omega), hon]
    by_cases ey : plc l = v
    · rw [if_pos ey]; simp [ey]
    · rw [if_neg ey, h.tv]; simp [ey]
  · rw [hrs]
    unfold upd
    split
    · rfl
    · rename_i ey
      exact h.rs1 y (((hon y).1 hy).resolve_right ey)
  · rw [hrs]
    have ey : y ≠ v := fun ey => hy ((hon y).2 (.inr ey))
    rw [upd_ne _ _ ey]
    exact h.rs2 y fun hh => hy ((hon y).2 (.inl hh))
  · exact hL.congr (fun i => (htd i).symm) rfl rfl rfl rfl (fun _ hl => hl)
  · refine List.eq_nil_iff_forall_not_mem.2 fun i hi => ?_
    obtain ⟨⟨k1, k2⟩, _⟩ := (hlt y i).1 hi
    have := h.ltp y (((hon y).1 hy).resolve_right k1)
    rw [this] at k2
    simp at k2
  · rw [htd, not_or] at hi
    have ey : y ≠ v := fun ey => hy ((hon y).2 (.inr ey))
    rw [hlt]
    have := h.ltu i hi.1 y (fun hh => hy ((hon y).2 (.inl hh)))
    rw [this]
    simp [ey, hi.2]
  · rw [htd]
    rcases (hon y).1 hy with hy | rfl
    · exact .inl (h.tdl y hy i hi)
    · by_cases hm : i ∈ mj.td
      · exact .inl hm
      · exact .inr ((h.ltu i hm y hnv).2 hi)
  · rw [htd] at hi
    rcases hi with hi | hi
    · rcases h.td i hi with h3 | ⟨y, h3, h4⟩
      · exact .inl h3
      · exact .inr ⟨y, (hon y).2 (.inl h3), h4⟩
    · have hm := (h.l.ltc v i hi).1
      exact .inr ⟨v, (hon v).2 (.inr rfl), (h.ltu i hm v hnv).1 hi⟩

/-- The trail is cut. -/
def cutM (mj : Mc) (s k : Nat) : Mc := { mj with tr := mj.tr.take s, st := mj.st.take k, told := min mj.told s }
theorem st_lt (h : McW m) {k : Nat} (hk : k < m.st.length) : ∀ x ∈ m.st.take k, x < m.st.getD k 0 := fun x hx => by
  obtain ⟨i, hi, rfl⟩ := List.getElem_of_mem hx
  rw [List.length_take] at hi
  have hi : i < k ∧ i < m.st.length := by omega
  rw [List.getElem_take, show m.st.getD k 0 = m.st[k] by simp [List.getD, hk]]
  exact List.pairwise_iff_getElem.1 h.sorted i k (by omega) hk hi.1
theorem st_ge (h : McW m) {k : Nat} (hk : k < m.st.length) : ∀ x ∈ m.st.drop k, m.st.getD k 0 ≤ x := fun x hx => by
  obtain ⟨i, hi, rfl⟩ := List.getElem_of_mem hx
  simp at hi
  rw [List.getElem_drop, show m.st.getD k 0 = m.st[k] by simp [List.getD, hk]]
  rcases Nat.eq_zero_or_pos i with rfl | h0
  · simp
  · exact Nat.le_of_lt (List.pairwise_iff_getElem.1 h.sorted k (k + i) hk (by omega) (by omega))
theorem cnt_cut (h : McW m) {k : Nat} (hk : k < m.st.length) {i : Nat} (hi : i < m.st.getD k 0) : (m.st.take k).countP (fun x => decide (x ≤ i)) = m.st.countP fun x => decide (x ≤ i) := by
  conv => rhs; rw [← List.take_append_drop k m.st, List.countP_append]
  have : (m.st.drop k).countP (fun x => decide (x ≤ i)) = 0 := by
    rw [List.countP_eq_zero]
    intro x hx
    have := st_ge h hk x hx
    simp; omega
  omega
theorem cnt_low (h : McW m) {k : Nat} (hk : k < m.st.length) {i : Nat} (hi : i < m.st.getD k 0) : m.st.countP (fun x => decide (x ≤ i)) ≤ k := by
  rw [← cnt_cut h hk hi]
  refine Nat.le_trans List.countP_le_length ?_
  rw [List.length_take]; omega
theorem cnt_high (h : McW m) {k : Nat} (hk : k < m.st.length) {i : Nat} (hi : m.st.getD k 0 ≤ i) : k < m.st.countP fun x => decide (x ≤ i) := by
  have h1 : (m.st.take (k + 1)).countP (fun x => decide (x ≤ i)) = k + 1 := by
    have : (m.st.take (k + 1)).length = k + 1 := by rw [List.length_take]; omega
    refine (List.countP_eq_length.2 fun x hx => ?_).trans this
    rw [List.take_succ_eq_append_getElem hk, List.mem_append, List.mem_singleton] at hx
    have e : m.st.getD k 0 = m.st[k] := by simp [List.getD, hk]
    rcases hx with hx | hx
    · have := st_lt h hk x hx; simp; omega
    · simp; omega
  have h2 : (m.st.take (k + 1)).countP (fun x => decide (x ≤ i)) ≤ m.st.countP fun x => decide (x ≤ i) := by
    conv => rhs; rw [← List.take_append_drop (k + 1) m.st, List.countP_append]
    omega
  omega
theorem BkI.done (h : McI m) {k : Nat} (hk : k < m.st.length) (hb : BkI m (m.st.getD k 0) m.tr.length mj) : McI (cutM mj (m.st.getD k 0) k) := by
  have hw := h.w
  have hs : m.st.getD k 0 < m.tr.length := hw.lt _ (by rw [show m.st.getD k 0 = m.st[k] by simp [List.getD, hk]]; exact List.getElem_mem hk)
  obtain ⟨s, hsd⟩ : ∃ s, m.st.getD k 0 = s := ⟨_, rfl⟩
  rw [hsd] at hb hs ⊢
  have htr : mj.tr = m.tr := hb.etr
  have hst : mj.st = m.st := hb.est
  have htold : mj.told = m.told := hb.eto
  have hlv : mj.lv = m.lv := hb.elv
  have hcl : mj.cl = m.cl := hb.ecl
  have hmp : mj.mp = m.mp := hb.emp
  have hnx : mj.nx = m.nx := hb.enx
  have hnn : mj.n = m.n := hb.en
  have hlen : (m.tr.take s).length = s := by rw [List.length_take]; omega
  have hget : ∀ i, i < s → (m.tr.take s).getD i 0 = m.tr.getD i 0 := fun i hi => by simp [List.getD, List.getElem?_take, hi]
  -- where a variable stands
  have hon : ∀ p, p < m.tr.length → (OnTr m s m.tr.length (plc (m.tr.getD p 0)) ↔ s ≤ p) := fun p hp => by
    constructor
    · rintro ⟨q, h1, h2, h3, h4⟩
      rw [← hw.at_one h3 hp h4]; exact h1
    · exact fun h1 => ⟨p, h1, hp, hp, rfl⟩
  have hmem : ∀ l, l ∈ m.tr.take s ↔ l ∈ m.tr ∧ ¬ OnTr m s m.tr.length (plc l) := fun l => by
    constructor
    · intro hl
      obtain ⟨p, h1, h2, rfl⟩ := tr_of_take hl
      exact ⟨getD_mem' h1, fun hh => by have := (hon p h1).1 hh; omega⟩
    · rintro ⟨hl, hn⟩
      obtain ⟨p, hp, rfl⟩ := tr_mem_pos hl
      exact tr_mem_take hp (Nat.lt_of_not_le fun hh => hn ((hon p hp).2 hh))
  have hlow : ∀ p, p < s → m.lv (plc (m.tr.getD p 0)) ≤ k := fun p hp => by rw [hw.lvl p (by omega)]; exact cnt_low hw hk (by omega)
  have hhigh : ∀ p, s ≤ p → p < m.tr.length → k < m.lv (plc (m.tr.getD p 0)) := fun p h1 h2 => by rw [hw.lvl p h2]; exact cnt_high hw hk (by omega)
  refine { w := ?_, l := ?_, s := fun i hi => ?_, r := fun i hi v hv => ?_ }
  · refine { n := by show mj.n ≤ 4000; rw [hnn]; exact hw.n, vl := by show mj.vs.length = mj.n + 1; rw [hnn]; exact hb.vl, vv := hb.vv, tv := fun l => ?_, one := ?_, told := ?_, sorted := ?_, lt := ?_, lvl := fun i hi => ?_, mps := fun i => ?_, cls := fun i c hc => ?_, rs0 := fun v hv => ?_, dec := fun i hi hi2 => ?_, rsn := fun i hi hi2 => ?_ }
    · show valL mj.vs l = 1 ↔ l ∈ mj.tr.take s
      rw [htr, hmem, hb.tv]
    · show (mj.tr.take s).Pairwise _
      rw [htr]; exact hw.one.sublist (List.take_sublist _ _)
    · show min mj.told s ≤ (mj.tr.take s).length
      rw [htr, hlen]; omega
    · show (mj.st.take k).Pairwise _
      rw [hst]; exact hw.sorted.sublist (List.take_sublist _ _)
    · show ∀ x ∈ mj.st.take k, x < (mj.tr.take s).length
      rw [hst, htr, hlen]
      intro x hx
      have := st_lt hw hk x hx
      omega
    · have hi' : i < s := by have hi2 : i < (mj.tr.take s).length := hi; rw [htr, hlen] at hi2; exact hi2
      show mj.lv (plc ((mj.tr.take s).getD i 0)) = (mj.st.take k).countP _
      rw [hlv, htr, hst, hget i hi', hw.lvl i (by omega), cnt_cut hw hk (by omega)]
    · show mj.mp i = (mj.cl i).isSome
      rw [hmp, hcl]; exact hw.mps i
    · have hc' : mj.cl i = some c := hc
      rw [hcl] at hc'
      show i < mj.nx ∧ _ ∧ ∀ l ∈ c, (1 ≤ plc l ∧ plc l ≤ mj.n) ∧ -l ∉ c
      rw [hnx, hnn]
      exact hw.cls i c hc'
    · show mj.rs v = none
      by_cases ho : OnTr m s m.tr.length v
      · exact hb.rs1 v ho
      · rw [hb.rs2 v ho]
        refine hw.rs0 v fun l hl e => ?_
        have hv' : ∀ l ∈ mj.tr.take s, plc l ≠ v := hv
        rw [htr] at hv'
        exact hv' l ((hmem l).2 ⟨hl, by rw [e]; exact ho⟩) e
    · have hi' : i < s := by have hi2 : i < (mj.tr.take s).length := hi; rw [htr, hlen] at hi2; exact hi2
      have hi3 : i ∈ mj.st.take k := hi2
      rw [hst] at hi3
      show mj.rs (plc ((mj.tr.take s).getD i 0)) = none
      rw [htr, hget i hi', hb.rs2 _ (fun hh => by have := (hon i (by omega)).1 hh; omega)]
      exact hw.dec i (by omega) (List.mem_of_mem_take hi3)
    · have hi' : i < s := by have hi2 : i < (mj.tr.take s).length := hi; rw [htr, hlen] at hi2; exact hi2
      have hi3 : i ∉ mj.st.take k := hi2
      rw [hst] at hi3
      show ∃ q c, mj.rs (plc ((mj.tr.take s).getD i 0)) = some q ∧ mj.cl q = some ((mj.tr.take s).getD i 0 :: c) ∧ ∀ l ∈ c, -l ∈ (mj.tr.take s).take i
      rw [htr, hcl, hget i hi', hb.rs2 _ (fun hh => by have := (hon i (by omega)).1 hh; omega), List.take_take, Nat.min_eq_left (by omega)]
      refine hw.rsn i (by omega) fun hm => hi3 ?_
      rw [← List.take_append_drop k m.st, List.mem_append] at hm
      exact hm.resolve_right fun hm => by have := st_ge hw hk i hm; omega
  · refine { hb.l with ltc := fun v i hi => ?_ }
    obtain ⟨h1, a, r, h2, h3, h4⟩ := hb.l.ltc v i hi
    refine ⟨h1, a, r, h2, h3, ?_⟩
    show a ∈ mj.tr.take s
    rw [htr] at h4 ⊢
    refine (hmem a).2 ⟨h4, fun ho => ?_⟩
    have hi' : i ∈ mj.lt v := hi
    rw [hb.ltp v (h3 ▸ ho)] at hi'
    simp at hi'
  · have hi' : i ∉ mj.td := hi
    have him : i ∉ m.td := fun hm => hi' (hb.tdm i hm)
    intro c hc
    have hc' : mj.cl i = some c := hc
    rw [hcl] at hc'
    have hs0 := h.s i him c hc'
    have htk : (mj.tr.take s).take (min mj.told s) = m.tr.take (min m.told s) := by rw [htr, htold, List.take_take, Nat.min_eq_left (Nat.min_le_right _ _)]
    have hsub : ∀ l, l ∈ m.tr.take (min m.told s) → l ∈ m.tr.take m.told := fun l hl => by
      obtain ⟨p, h1, h2, rfl⟩ := tr_of_take hl
      exact tr_mem_take h1 (by omega)
    match c, hs0 with
    | [a], ⟨h1, h2⟩ =>
      show a ∈ mj.tr.take s ∧ (i ∈ mj.lt (plc a) ↔ 0 < mj.lv (plc a))
      rw [htr, hlv]
      obtain ⟨p, hp, rfl⟩ := tr_mem_pos h1
      have hps : p < s := Nat.lt_of_not_le fun hh => by
        have := hhigh p hh hp
        exact hi' (hb.tdl _ ((hon p hp).2 hh) i (h2.2 (by omega)))
      refine ⟨tr_mem_take hp hps, ?_⟩
      rw [hb.ltu i hi' _ (fun hh => by have := (hon p hp).1 hh; omega)]
      exact h2
    | a :: b :: _, ⟨h1, h2, h3⟩ =>
      show -a ∉ (mj.tr.take s).take (min mj.told s) ∧ (i ∈ mj.lt (plc a) ↔ -b ∈ (mj.tr.take s).take (min mj.told s) ∧ mj.lv (plc b) < mj.lv (plc a)) ∧ (-b ∈ (mj.tr.take s).take (min mj.told s) → a ∈ mj.tr.take s)
      rw [htk, htr, hlv]
      have k3 : -b ∈ m.tr.take (min m.told s) → ∃ p, p < s ∧ p < m.tr.length ∧ m.tr.getD p 0 = a := fun hm => by
        have hm2 := hsub _ hm
        obtain ⟨p, hp, rfl⟩ := tr_mem_pos (h3 hm2)
        refine ⟨p, Nat.lt_of_not_le fun hh => ?_, hp, rfl⟩
        obtain ⟨q, hq, hqs, e⟩ := tr_of_take hm
        have h4 := hhigh p hh hp
        have h5 := hlow q (by omega)
        rw [e, plc_ng] at h5
        exact hi' (hb.tdl _ ((hon p hp).2 hh) i (h2.2 ⟨hm2, by omega⟩))
      refine ⟨fun hm => h1 (hsub _ hm), ?_, fun hm => by obtain ⟨p, h4, h5, rfl⟩ := k3 hm; exact tr_mem_take h5 h4⟩
      by_cases ho : OnTr m s m.tr.length (plc a)
      · rw [hb.ltp _ ho]
        refine ⟨fun hm => by simp at hm, fun ⟨hm, _⟩ => ?_⟩
        obtain ⟨p, h4, h5, rfl⟩ := k3 hm
        have := (hon p h5).1 ho
        omega
      · rw [hb.ltu i hi' _ ho, h2]
        refine ⟨fun ⟨hm, hl⟩ => ⟨?_, hl⟩, fun ⟨hm, hl⟩ => ⟨hsub _ hm, hl⟩⟩
        have ha := h3 hm
        obtain ⟨p, hp, e⟩ := tr_mem_pos ha
        obtain ⟨q, hq, hqt, e2⟩ := tr_of_take hm
        have hps : p < s := Nat.lt_of_not_le fun hh => ho (by rw [← e]; exact (hon p hp).2 hh)
        have : q < p := hw.pos_lt hq hp (by rw [e, e2, plc_ng]; exact hl)
        rw [← e2]
        exact tr_mem_take hq (by omega)
  · have hi' : i ∈ mj.td := hi
    have hv' : mj.rs v = some i := hv
    have ho : ¬ OnTr m s m.tr.length v := fun ho => by rw [hb.rs1 v ho] at hv'; cases hv'
    rw [hb.rs2 v ho] at hv'
    rcases hb.td i hi' with h1 | ⟨y, h1, h2⟩
    · exact h.r i h1 v hv'
    · obtain ⟨_, a, r, h3, h4, _⟩ := h.l.ltc y i h2
      obtain ⟨p, c0, _, h6, h7⟩ := hw.rs_head hv'
      rw [h3] at h7
      injection h7 with h7
      injection h7 with h7 _
      rw [← h7, h4] at h6
      exact ho (h6 ▸ h1)
end
end Go.Proofs.Ytjlmooimdogmjaa
