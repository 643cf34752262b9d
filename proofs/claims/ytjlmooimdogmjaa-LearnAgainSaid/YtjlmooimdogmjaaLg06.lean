/- What the program's prop keeps, as plain data: values, trail, levels, clauses in the order that they lie in, who is watched by what, what is late, what is to be looked at; what always holds of it; what setting, swapping, watching, taking out of lists leave. No conditions beyond those typed. -/
import Derived.Test.YtjlmooimdogmjaaLg04
set_option linter.unusedVariables false
set_option linter.unusedSimpArgs false
namespace Go.Proofs.Ytjlmooimdogmjaa
open Go.RowKit

def upd {α : Type} (f : Nat → α) (i : Nat) (x : α) : Nat → α := fun j => if j = i then x else f j
theorem upd_same {α : Type} (f : Nat → α) (i : Nat) (x : α) : upd f i x i = x := by unfold upd; rw [if_pos rfl]
theorem upd_ne {α : Type} (f : Nat → α) {i j : Nat} (x : α) (h : j ≠ i) : upd f i x j = f j := by unfold upd; rw [if_neg h]
theorem upd_if {α : Type} (f : Nat → α) (i : Nat) (x : α) (j : Nat) : upd f i x j = if j = i then x else f j := rfl
theorem upd_self {α : Type} (f : Nat → α) (i : Nat) : upd f i (f i) = f := by funext j; unfold upd; split <;> simp_all

structure Mc where
  n : Nat
  vs : List Int
  tr : List Int
  told : Nat
  st : List Nat
  nx : Nat
  mp : Nat → Bool
  cl : Nat → Option (List Int)
  lv : Nat → Nat
  rs : Nat → Option Nat
  wt : Nat → List Nat
  lt : Nat → List Nat
  td : List Nat

/-- Where the list of those that watch l lies. -/
def wx (l : Int) : Nat := if l < 0 then 2 * plc l + 1 else 2 * plc l
theorem plc_abs (l : Int) : (plc l : Int) = absI l := by unfold plc; have : 0 ≤ absI l := absI_pos l; omega
theorem wx_inj {a b : Int} (h : wx a = wx b) : a = b := by
  unfold wx at h
  have h1 := plc_abs a
  have h2 := plc_abs b
  unfold absI at h1 h2
  split at h <;> split at h <;> split at h1 <;> split at h2 <;> omega
theorem wx_half (l : Int) : wx l / 2 = plc l := by unfold wx; split <;> omega
theorem plc_pm {a b : Int} (h : plc a = plc b) : a = b ∨ a = -b := by
  have h1 := plc_abs a
  have h2 := plc_abs b
  unfold absI at h1 h2
  split at h1 <;> split at h2 <;> omega
theorem plc_ng (l : Int) : plc (-l) = plc l := by
  have h1 := plc_abs (-l)
  have h2 := plc_abs l
  unfold absI at h1 h2
  split at h1 <;> split at h2 <;> omega

/-- What always holds, but for the lists. -/
structure McW (m : Mc) : Prop where
  n : m.n ≤ 4000
  vl : m.vs.length = m.n + 1
  vv : Vals m.vs
  tv : ∀ l, valL m.vs l = 1 ↔ l ∈ m.tr
  one : m.tr.Pairwise fun x y => plc x ≠ plc y
  told : m.told ≤ m.tr.length
  sorted : m.st.Pairwise (· < ·)
  lt : ∀ s ∈ m.st, s < m.tr.length
  lvl : ∀ i, i < m.tr.length → m.lv (plc (m.tr.getD i 0)) = m.st.countP fun s => decide (s ≤ i)
  mps : ∀ i, m.mp i = (m.cl i).isSome
  cls : ∀ i c, m.cl i = some c → i < m.nx ∧ c.Nodup ∧ ∀ l ∈ c, (1 ≤ plc l ∧ plc l ≤ m.n) ∧ -l ∉ c
  rs0 : ∀ v, (∀ l ∈ m.tr, plc l ≠ v) → m.rs v = none
  dec : ∀ i, i < m.tr.length → i ∈ m.st → m.rs (plc (m.tr.getD i 0)) = none
  rsn : ∀ i, i < m.tr.length → i ∉ m.st → ∃ k c, m.rs (plc (m.tr.getD i 0)) = some k ∧ m.cl k = some (m.tr.getD i 0 :: c) ∧ ∀ l ∈ c, -l ∈ m.tr.take i

section
variable {m : Mc}
theorem McW.vf (h : McW m) (l : Int) : valL m.vs l = 2 ↔ -l ∈ m.tr := by rw [val_false h.vv, h.tv]
theorem McW.nb (h : McW m) {l : Int} (h1 : l ∈ m.tr) (h2 : -l ∈ m.tr) : False := val_not_both h.vv ((h.tv l).2 h1) ((h.tv (-l)).2 h2)
theorem McW.v0 (h : McW m) (l : Int) : valL m.vs l = 0 ↔ l ∉ m.tr ∧ -l ∉ m.tr := by
  rw [← h.tv, ← h.vf]
  rcases h.vv.val l with e | e | e <;> rw [e] <;> simp
theorem McW.rgt (h : McW m) {l : Int} (hl : l ∈ m.tr) : 1 ≤ plc l ∧ plc l ≤ m.n := by
  have h1 := (h.tv l).2 hl
  unfold valL at h1
  split at h1
  · rename_i hr
    rw [rightB_iff, h.vl] at hr
    omega
  · cases h1
theorem McW.at_one (h : McW m) {i j : Nat} (hi : i < m.tr.length) (hj : j < m.tr.length) (e : plc (m.tr.getD i 0) = plc (m.tr.getD j 0)) : i = j := by
  have gi : m.tr.getD i 0 = m.tr[i] := by simp [List.getD, hi]
  have gj : m.tr.getD j 0 = m.tr[j] := by simp [List.getD, hj]
  rw [gi, gj] at e
  rcases Nat.lt_trichotomy i j with hl | hl | hl
  · exact absurd e (List.pairwise_iff_getElem.1 h.one i j hi hj hl)
  · exact hl
  · exact absurd e.symm (List.pairwise_iff_getElem.1 h.one j i hj hi hl)
theorem tr_mem_take {tr : List Int} {i t : Nat} (hi : i < tr.length) (ht : i < t) : tr.getD i 0 ∈ tr.take t := by
  rw [show tr.getD i 0 = tr[i] by simp [List.getD, hi]]
  exact List.mem_take_iff_getElem.2 ⟨i, by omega, rfl⟩
theorem tr_of_take {tr : List Int} {t : Nat} {l : Int} (h : l ∈ tr.take t) : ∃ i, i < tr.length ∧ i < t ∧ tr.getD i 0 = l := by
  obtain ⟨i, hi, e⟩ := List.mem_take_iff_getElem.1 h
  exact ⟨i, by omega, by omega, by simp [List.getD, show i < tr.length by omega]; exact e⟩
theorem McW.take_iff (h : McW m) {i t : Nat} (hi : i < m.tr.length) : m.tr.getD i 0 ∈ m.tr.take t ↔ i < t := by
  constructor
  · intro hm
    obtain ⟨j, hj, hjt, e⟩ := tr_of_take hm
    have := h.at_one hi hj (by rw [e])
    omega
  · exact tr_mem_take hi
theorem countP_mono {st : List Nat} {i j : Nat} (h : i ≤ j) : st.countP (fun s => decide (s ≤ i)) ≤ st.countP fun s => decide (s ≤ j) :=
  List.countP_mono_left fun s _ hs => by simp at *; omega
theorem McW.pos_lt (h : McW m) {i j : Nat} (hi : i < m.tr.length) (hj : j < m.tr.length) (hl : m.lv (plc (m.tr.getD i 0)) < m.lv (plc (m.tr.getD j 0))) : i < j := by
  rw [h.lvl i hi, h.lvl j hj] at hl
  rcases Nat.lt_or_ge i j with h' | h'
  · exact h'
  · have := countP_mono (st := m.st) h'; omega

/-! ### Setting -/
/-- l is made true, on the level that there is then. -/
def setG (m : Mc) (l : Int) (r : Option Nat) (st' : List Nat) : Mc := { m with vs := setV m.vs l, lv := upd m.lv (plc l) st'.length, rs := upd m.rs (plc l) r, tr := m.tr ++ [l], st := st' }
def setM (m : Mc) (l : Int) (r : Option Nat) : Mc := setG m l r m.st
def decM (m : Mc) (l : Int) : Mc := setG m l none (m.st ++ [m.tr.length])
theorem setG_tr (m : Mc) (l : Int) (r : Option Nat) (st' : List Nat) : (setG m l r st').tr = m.tr ++ [l] := rfl

theorem getD_app_l {tr : List Int} {l : Int} {i : Nat} (h : i < tr.length) : (tr ++ [l]).getD i 0 = tr.getD i 0 := by simp [List.getD, List.getElem?_append_left h]
theorem getD_app_r {tr : List Int} {l : Int} : (tr ++ [l]).getD tr.length 0 = l := by simp [List.getD]
theorem McW.unk (h : McW m) {l : Int} (h0 : valL m.vs l = 0) : ∀ k ∈ m.tr, plc k ≠ plc l := fun k hk e => by
  obtain ⟨n1, n2⟩ := (h.v0 l).1 h0
  rcases plc_pm e with rfl | rfl
  · exact n1 hk
  · exact n2 hk
theorem take_app {tr : List Int} {l : Int} {i : Nat} (h : i ≤ tr.length) : (tr ++ [l]).take i = tr.take i := List.take_append_of_le_length h
theorem McW.setG (h : McW m) {l : Int} {r : Option Nat} {st' : List Nat} (hr : 1 ≤ plc l ∧ plc l ≤ m.n) (h0 : valL m.vs l = 0)
    (hk : (st' = m.st ∧ ∃ k c, r = some k ∧ m.cl k = some (l :: c) ∧ ∀ x ∈ c, -x ∈ m.tr) ∨ (st' = m.st ++ [m.tr.length] ∧ r = none)) : McW (setG m l r st') where
  n := h.n
  vl := by show (setV m.vs l).length = _; rw [setV_len]; exact h.vl
  vv := h.vv.setV l
  tv := fun k => by
    show valL (setV m.vs l) k = 1 ↔ k ∈ m.tr ++ [l]
    rw [valL_setV ⟨hr.1, by rw [h.vl]; omega⟩ (by rw [h0]; decide), List.mem_append, List.mem_singleton]
    by_cases e : k = l
    · simp [e]
    · rw [if_neg e]
      by_cases e2 : k = -l
      · rw [if_pos e2]
        have : k ∉ m.tr := fun hm => h.unk h0 k hm (by rw [e2, plc_ng])
        simp [e, this]
      · rw [if_neg e2, h.tv]; simp [e]
  one := by
    show (m.tr ++ [l]).Pairwise _
    rw [List.pairwise_append]
    exact ⟨h.one, by simp, fun x hx y hy => by simp at hy; subst hy; exact h.unk h0 x hx⟩
  told := by show m.told ≤ (m.tr ++ [l]).length; rw [List.length_append]; have := h.told; omega
  sorted := by
    show st'.Pairwise _
    rcases hk with ⟨rfl, _⟩ | ⟨rfl, _⟩
    · exact h.sorted
    · rw [List.pairwise_append]
      exact ⟨h.sorted, by simp, fun x hx y hy => by simp at hy; subst hy; exact h.lt x hx⟩
  lt := by
    show ∀ s ∈ st', s < (m.tr ++ [l]).length
    rw [List.length_append]
    rcases hk with ⟨rfl, _⟩ | ⟨rfl, _⟩
    · intro s hs; have := h.lt s hs; simp; omega
    · intro s hs
      rw [List.mem_append, List.mem_singleton] at hs
      rcases hs with hs | hs
      · have := h.lt s hs; simp; omega
      · simp; omega
  lvl := fun i hi => by
    have hi' : i < m.tr.length + 1 := by rw [setG_tr, List.length_append] at hi; exact hi
    show upd m.lv (plc l) st'.length (plc ((m.tr ++ [l]).getD i 0)) = st'.countP _
    rcases Nat.lt_or_ge i m.tr.length with h1 | h1
    · rw [getD_app_l h1, upd_ne _ _ (h.unk h0 _ (by simp [List.getD, h1])), h.lvl i h1]
      rcases hk with ⟨rfl, _⟩ | ⟨rfl, _⟩
      · rfl
      · rw [List.countP_append]; simp; omega
    · obtain rfl : i = m.tr.length := by omega
      rw [getD_app_r, upd_same]
      refine (List.countP_eq_length.2 fun s hs => ?_).symm
      rcases hk with ⟨rfl, _⟩ | ⟨rfl, _⟩
      · have := h.lt s hs; simp; omega
      · rw [List.mem_append, List.mem_singleton] at hs
        rcases hs with hs | hs
        · have := h.lt s hs; simp; omega
        · simp [hs]
  mps := h.mps
  cls := h.cls
  rs0 := fun v hv => by
    have hv1 : v ≠ plc l := fun e => hv l (by rw [setG_tr]; simp) e.symm
    show upd m.rs (plc l) r v = none
    rw [upd_ne _ _ hv1]
    exact h.rs0 v fun k hk => hv k (by rw [setG_tr]; simp [hk])
  dec := fun i hi hs => by
    have hi' : i < m.tr.length + 1 := by rw [setG_tr, List.length_append] at hi; exact hi
    show upd m.rs (plc l) r (plc ((m.tr ++ [l]).getD i 0)) = none
    rcases Nat.lt_or_ge i m.tr.length with h1 | h1
    · rw [getD_app_l h1, upd_ne _ _ (h.unk h0 _ (by simp [List.getD, h1]))]
      refine h.dec i h1 ?_
      have hs' : i ∈ st' := hs
      rcases hk with ⟨rfl, _⟩ | ⟨rfl, _⟩
      · exact hs'
      · rw [List.mem_append, List.mem_singleton] at hs'
        exact hs'.resolve_right (by omega)
    · obtain rfl : i = m.tr.length := by omega
      rw [getD_app_r, upd_same]
      have hs' : m.tr.length ∈ st' := hs
      rcases hk with ⟨rfl, _⟩ | ⟨rfl, e⟩
      · exact absurd (h.lt _ hs') (by omega)
      · exact e
  rsn := fun i hi hs => by
    have hi' : i < m.tr.length + 1 := by rw [setG_tr, List.length_append] at hi; exact hi
    have hs' : i ∉ st' := hs
    show ∃ k c, upd m.rs (plc l) r (plc ((m.tr ++ [l]).getD i 0)) = some k ∧ m.cl k = some ((m.tr ++ [l]).getD i 0 :: c) ∧ ∀ x ∈ c, -x ∈ (m.tr ++ [l]).take i
    rw [take_app (by omega)]
    rcases Nat.lt_or_ge i m.tr.length with h1 | h1
    · rw [getD_app_l h1, upd_ne _ _ (h.unk h0 _ (by simp [List.getD, h1]))]
      refine h.rsn i h1 ?_
      rcases hk with ⟨rfl, _⟩ | ⟨rfl, _⟩
      · exact hs'
      · rw [List.mem_append] at hs'
        exact fun hm => hs' (.inl hm)
    · obtain rfl : i = m.tr.length := by omega
      rw [getD_app_r, upd_same, List.take_of_length_le (Nat.le_refl _)]
      rcases hk with ⟨rfl, k, c, e, h2, h3⟩ | ⟨rfl, _⟩
      · exact ⟨k, c, e, h2, h3⟩
      · exact absurd (by simp) hs'

/-! ### The lists -/
/-- What holds of the lists; F: those that nothing tells. -/
structure McL (m : Mc) (F : Nat → Prop) : Prop where
  tdn : m.td.Nodup
  tdF : ∀ i ∈ m.td, F i ∧ ∃ c, m.cl i = some c
  ltN : ∀ v, (m.lt v).Nodup
  ltc : ∀ v i, i ∈ m.lt v → ¬ F i ∧ ∃ a r, m.cl i = some (a :: r) ∧ plc a = v ∧ a ∈ m.tr
  wtN : ∀ j, (m.wt j).Nodup
  wtc : ∀ j i, i ∈ m.wt j → ¬ F i ∧ ∃ a b r, m.cl i = some (a :: b :: r) ∧ (j = wx a ∨ j = wx b)
  wtd : ∀ i c, m.cl i = some c → ¬ F i → c ≠ [] ∧ ∀ a b r, c = a :: b :: r → i ∈ m.wt (wx a) ∧ i ∈ m.wt (wx b)

/-- What is told of a clause that is not to be looked at; t: how many have told. -/
def Sm (m : Mc) (t i : Nat) : Prop := ∀ c, m.cl i = some c → match c with
  | [] => False
  | [a] => a ∈ m.tr ∧ (i ∈ m.lt (plc a) ↔ 0 < m.lv (plc a))
  | a :: b :: _ => -a ∉ m.tr.take t ∧ (i ∈ m.lt (plc a) ↔ -b ∈ m.tr.take t ∧ m.lv (plc b) < m.lv (plc a)) ∧ (-b ∈ m.tr.take t → a ∈ m.tr)

/-- A state that is at rest. -/
structure McI (m : Mc) : Prop where
  w : McW m
  l : McL m (· ∈ m.td)
  s : ∀ i, i ∉ m.td → Sm m m.told i
  r : ∀ i ∈ m.td, ∀ v, m.rs v ≠ some i

theorem McL.congr {m m' : Mc} {F F' : Nat → Prop} (h : McL m F) (hF : ∀ i, F i ↔ F' i) (h1 : m'.td = m.td) (h2 : m'.lt = m.lt) (h3 : m'.wt = m.wt) (h4 : m'.cl = m.cl) (h5 : ∀ l ∈ m.tr, l ∈ m'.tr) : McL m' F' where
  tdn := by rw [h1]; exact h.tdn
  tdF := fun i hi => by rw [h1] at hi; rw [h4]; exact ⟨(hF i).1 (h.tdF i hi).1, (h.tdF i hi).2⟩
  ltN := by rw [h2]; exact h.ltN
  ltc := fun v i hi => by
    rw [h2] at hi
    obtain ⟨a, b, r, e1, e2, e3⟩ := h.ltc v i hi
    exact ⟨fun hf => a ((hF i).2 hf), b, r, by rw [h4]; exact e1, e2, h5 _ e3⟩
  wtN := by rw [h3]; exact h.wtN
  wtc := fun j i hi => by
    rw [h3] at hi
    obtain ⟨a, b, c, r, e1, e2⟩ := h.wtc j i hi
    exact ⟨fun hf => a ((hF i).2 hf), b, c, r, by rw [h4]; exact e1, e2⟩
  wtd := fun i c hc hf => by
    rw [h4] at hc
    rw [h3]
    exact h.wtd i c hc fun hf' => hf ((hF i).1 hf')
theorem McL.setG {F : Nat → Prop} (h : McL m F) (l : Int) (r : Option Nat) (st' : List Nat) : McL (setG m l r st') F := h.congr (fun _ => Iff.rfl) rfl rfl rfl rfl (fun x hx => by rw [setG_tr]; simp [hx])
/-- Setting leaves what was told. -/
theorem Sm.setG (hw : McW m) {t i : Nat} (ht : t ≤ m.tr.length) (h : Sm m t i) {l : Int} (h0 : valL m.vs l = 0) (r : Option Nat) (st' : List Nat) : Sm (setG m l r st') t i := by
  intro c hc
  have := h c hc
  have lvk : ∀ a ∈ m.tr, upd m.lv (plc l) st'.length (plc a) = m.lv (plc a) := fun a ha => upd_ne _ _ (hw.unk h0 a ha)
  match c, this with
  | [a], ⟨h1, h2⟩ =>
    show a ∈ m.tr ++ [l] ∧ (i ∈ m.lt (plc a) ↔ 0 < upd m.lv (plc l) st'.length (plc a))
    rw [lvk a h1]
    exact ⟨by simp [h1], h2⟩
  | a :: b :: _, ⟨h1, h2, h3⟩ =>
    show -a ∉ (m.tr ++ [l]).take t ∧ (i ∈ m.lt (plc a) ↔ -b ∈ (m.tr ++ [l]).take t ∧ upd m.lv (plc l) st'.length (plc b) < upd m.lv (plc l) st'.length (plc a)) ∧ (-b ∈ (m.tr ++ [l]).take t → a ∈ m.tr ++ [l])
    rw [take_app ht]
    refine ⟨h1, ?_, fun hb => by simp [h3 hb]⟩
    by_cases hb : -b ∈ m.tr.take t
    · have ha := h3 hb
      have hb' := List.mem_of_mem_take hb
      rw [h2, lvk a ha, show plc b = plc (-b) from (plc_ng b).symm, lvk _ hb']
    · rw [h2]; simp [hb]

/-! ### At rest, all told -/
theorem McI.clo (h : McI m) (ht : m.told = m.tr.length) (hd : m.td = []) : ∀ i c, m.cl i = some c → (∃ l ∈ c, l ∈ m.tr) ∨ ∃ a ∈ c, ∃ b ∈ c, a ≠ b ∧ -a ∉ m.tr ∧ -b ∉ m.tr := by
  intro i c hc
  have hs := h.s i (by rw [hd]; simp) c hc
  have htk : m.tr.take m.told = m.tr := by rw [ht]; exact List.take_of_length_le (Nat.le_refl _)
  match c, hs, hc with
  | [a], ⟨h1, _⟩, _ => exact .inl ⟨a, by simp, h1⟩
  | a :: b :: r, ⟨h1, _, h3⟩, hc =>
    rw [htk] at h1 h3
    by_cases hb : -b ∈ m.tr
    · exact .inl ⟨a, by simp, h3 hb⟩
    · refine .inr ⟨a, by simp, b, by simp, ?_, h1, hb⟩
      have := (h.w.cls i _ hc).2.1
      simp at this
      exact fun e => this.1.1 e
end
end Go.Proofs.Ytjlmooimdogmjaa
