/- What the program's prop keeps, as plain data: values, trail, levels, clauses in the order that they lie in, who is watched by what, what is late, what is to be looked at; what always holds of it; what setting, swapping, watching, taking out of lists leave. No conditions beyond those typed. · A prop in memory: which block is whose ('Rl': a role for each), what lies in each ('At'), and the whole ('MA'); what a turn of one block leaves of the others. No conditions beyond those typed. · Contracts of prop's small functions, that only read: is, Value, Level, LevelOf, known, Reason, of, watchers, falseFrom. Conditions: 64-bit ints; the prop lies in memory as 'MA' says. · A prop in memory: what single stores and appends leave of it. No conditions beyond those typed. · Contracts of prop's set, watch, swap. Conditions: the prop lies in memory as 'MA' says; its numbers are small. · The contract of prop's swap. Conditions: the prop lies in memory as 'MA' says. · The contract of prop's only. Conditions: the prop lies in memory as 'MA' says; its numbers are small. · Contracts of prop's best and rewatch. Conditions: the prop lies in memory as 'MA' says; its numbers are small. · Contracts of prop's rewatch and settle. Conditions: the prop lies in memory as 'MA' says; its numbers are small. -/
import Derived.Test.YtmlgpnaikdpifaaPrP
import Derived.Test.YtmlgpnaikdpifaaChg
import Derived.Test.YtmlgpnaikdpifaaRead
import Derived.Test.YtmlgpnaikdpifaaOwS
import Derived.Maps.OwnSet
import Derived.Maps.OwnOps
import Derived.Test.YtmlgpnaikdpifaaChecked
import Derived.IntWalk
import Derived.Deep.QuietTactic
import Derived.BigQuiet
import Derived.RegionTactic
import Derived.Carry
import Derived.BigRegion
import Derived.Deep.CutBlock
import Derived.Deep.DeepCutAuto
import Derived.Deep.RegionWith
import Derived.Deep.Light
set_option linter.unusedVariables false
set_option linter.unusedSimpArgs false
namespace Go.Proofs.Ytmlgpnaikdpifaa
open Go.RowKit

def upd {α : Type} (f : Nat → α) (i : Nat) (x : α) : Nat → α := fun j => if j = i then x else f j
theorem upd_same {α : Type} (f : Nat → α) (i : Nat) (x : α) : upd f i x i = x := by unfold upd; rw [if_pos rfl]
theorem upd_ne {α : Type} (f : Nat → α) {i j : Nat} (x : α) (h : j ≠ i) : upd f i x j = f j := by unfold upd; rw [if_neg h]
theorem upd_if {α : Type} (f : Nat → α) (i : Nat) (x : α) (j : Nat) : upd f i x j = if j = i then x else f j := rfl
theorem upd_self {α : Type} (f : Nat → α) (i : Nat) : upd f i (f i) = f := by funext j; unfold upd; split <;> simp_all

structure Mc where
  n : Nat
  vs : List Int
  tr : List Int
  told : Nat
  st : List Nat
  nx : Nat
  mp : Nat → Bool
  cl : Nat → Option (List Int)
  lv : Nat → Nat
  rs : Nat → Option Nat
  wt : Nat → List Nat
  lt : Nat → List Nat
  td : List Nat

/-- Where the list of those that watch l lies. -/
def wx (l : Int) : Nat := if l < 0 then 2 * plc l + 1 else 2 * plc l
theorem plc_abs (l : Int) : (plc l : Int) = absI l := by unfold plc; have : 0 ≤ absI l := absI_pos l; omega
theorem wx_inj {a b : Int} (h : wx a = wx b) : a = b := by
  unfold wx at h
  have h1 := plc_abs a
  have h2 := plc_abs b
  unfold absI at h1 h2
  split at h <;> split at h <;> split at h1 <;> split at h2 <;> omega
theorem wx_half (l : Int) : wx l / 2 = plc l := by unfold wx; split <;> omega
theorem plc_pm {a b : Int} (h : plc a = plc b) : a = b ∨ a = -b := by
  have h1 := plc_abs a
  have h2 := plc_abs b
  unfold absI at h1 h2
  split at h1 <;> split at h2 <;> omega
theorem plc_ng (l : Int) : plc (-l) = plc l := by
  have h1 := plc_abs (-l)
  have h2 := plc_abs l
  unfold absI at h1 h2
  split at h1 <;> split at h2 <;> omega

/-- What always holds, but for the lists. -/
structure McW (m : Mc) : Prop where
  n : m.n ≤ 4000
  vl : m.vs.length = m.n + 1
  vv : Vals m.vs
  tv : ∀ l, valL m.vs l = 1 ↔ l ∈ m.tr
  one : m.tr.Pairwise fun x y => plc x ≠ plc y
  told : m.told ≤ m.tr.length
  sorted : m.st.Pairwise (· < ·)
  lt : ∀ s ∈ m.st, s < m.tr.length
  lvl : ∀ i, i < m.tr.length → m.lv (plc (m.tr.getD i 0)) = m.st.countP fun s => decide (s ≤ i)
  mps : ∀ i, m.mp i = (m.cl i).isSome
  cls : ∀ i c, m.cl i = some c → i < m.nx ∧ c.Nodup ∧ ∀ l ∈ c, (1 ≤ plc l ∧ plc l ≤ m.n) ∧ -l ∉ c
  rs0 : ∀ v, (∀ l ∈ m.tr, plc l ≠ v) → m.rs v = none
  dec : ∀ i, i < m.tr.length → i ∈ m.st → m.rs (plc (m.tr.getD i 0)) = none
  rsn : ∀ i, i < m.tr.length → i ∉ m.st → ∃ k c, m.rs (plc (m.tr.getD i 0)) = some k ∧ m.cl k = some (m.tr.getD i 0 :: c) ∧ ∀ l ∈ c, -l ∈ m.tr.take i

section
variable {m : Mc}
theorem McW.vf (h : McW m) (l : Int) : valL m.vs l = 2 ↔ -l ∈ m.tr := by rw [val_false h.vv, h.tv]
theorem McW.nb (h : McW m) {l : Int} (h1 : l ∈ m.tr) (h2 : -l ∈ m.tr) : False := val_not_both h.vv ((h.tv l).2 h1) ((h.tv (-l)).2 h2)
theorem McW.v0 (h : McW m) (l : Int) : valL m.vs l = 0 ↔ l ∉ m.tr ∧ -l ∉ m.tr := by
  rw [← h.tv, ← h.vf]
  rcases h.vv.val l with e | e | e <;> rw [e] <;> simp
theorem McW.rgt (h : McW m) {l : Int} (hl : l ∈ m.tr) : 1 ≤ plc l ∧ plc l ≤ m.n := by
  have h1 := (h.tv l).2 hl
  unfold valL at h1
  split at h1
  · rename_i hr
    rw [rightB_iff, h.vl] at hr
    omega
  · cases h1
theorem McW.at_one (h : McW m) {i j : Nat} (hi : i < m.tr.length) (hj : j < m.tr.length) (e : plc (m.tr.getD i 0) = plc (m.tr.getD j 0)) : i = j := by
  have gi : m.tr.getD i 0 = m.tr[i] := by simp [List.getD, hi]
  have gj : m.tr.getD j 0 = m.tr[j] := by simp [List.getD, hj]
  rw [gi, gj] at e
  rcases Nat.lt_trichotomy i j with hl | hl | hl
  · exact absurd e (List.pairwise_iff_getElem.1 h.one i j hi hj hl)
  · exact hl
  · exact absurd e.symm (List.pairwise_iff_getElem.1 h.one j i hj hi hl)
theorem tr_mem_take {tr : List Int} {i t : Nat} (hi : i < tr.length) (ht : i < t) : tr.getD i 0 ∈ tr.take t := by
  rw [show tr.getD i 0 = tr[i] by simp [List.getD, hi]]
  exact List.mem_take_iff_getElem.2 ⟨i, by omega, rfl⟩
theorem tr_of_take {tr : List Int} {t : Nat} {l : Int} (h : l ∈ tr.take t) : ∃ i, i < tr.length ∧ i < t ∧ tr.getD i 0 = l := by
  obtain ⟨i, hi, e⟩ := List.mem_take_iff_getElem.1 h
  exact ⟨i, by omega, by omega, by simp [List.getD, show i < tr.length by omega]; exact e⟩
theorem McW.take_iff (h : McW m) {i t : Nat} (hi : i < m.tr.length) : m.tr.getD i 0 ∈ m.tr.take t ↔ i < t := by
  constructor
  · intro hm
    obtain ⟨j, hj, hjt, e⟩ := tr_of_take hm
    have := h.at_one hi hj (by rw [e])
    omega
  · exact tr_mem_take hi
theorem countP_mono {st : List Nat} {i j : Nat} (h : i ≤ j) : st.countP (fun s => decide (s ≤ i)) ≤ st.countP fun s => decide (s ≤ j) :=
  List.countP_mono_left fun s _ hs => by simp at *; omega
theorem McW.pos_lt (h : McW m) {i j : Nat} (hi : i < m.tr.length) (hj : j < m.tr.length) (hl : m.lv (plc (m.tr.getD i 0)) < m.lv (plc (m.tr.getD j 0))) : i < j := by
  rw [h.lvl i hi, h.lvl j hj] at hl
  rcases Nat.lt_or_ge i j with h' | h'
  · exact h'
  · have := countP_mono (st := m.st) h'; omega

/-! ### Setting -/
/-- l is made true, on the level that there is then. -/
def setG (m : Mc) (l : Int) (r : Option Nat) (st' : List Nat) : Mc := { m with vs := setV m.vs l, lv := upd m.lv (plc l) st'.length, rs := upd m.rs (plc l) r, tr := m.tr ++ [l], st := st' }
def setM (m : Mc) (l : Int) (r : Option Nat) : Mc := setG m l r m.st
def decM (m : Mc) (l : Int) : Mc := setG m l none (m.st ++ [m.tr.length])
theorem setG_tr (m : Mc) (l : Int) (r : Option Nat) (st' : List Nat) : (setG m l r st').tr = m.tr ++ [l] := rfl

theorem getD_app_l {tr : List Int} {l : Int} {i : Nat} (h : i < tr.length) : (tr ++ [l]).getD i 0 = tr.getD i 0 := by simp [List.getD, List.getElem?_append_left h]
theorem getD_app_r {tr : List Int} {l : Int} : (tr ++ [l]).getD tr.length 0 = l := by simp [List.getD]
theorem McW.unk (h : McW m) {l : Int} (h0 : valL m.vs l = 0) : ∀ k ∈ m.tr, plc k ≠ plc l := fun k hk e => by
  obtain ⟨n1, n2⟩ := (h.v0 l).1 h0
  rcases plc_pm e with rfl | rfl
  · exact n1 hk
  · exact n2 hk
theorem take_app {tr : List Int} {l : Int} {i : Nat} (h : i ≤ tr.length) : (tr ++ [l]).take i = tr.take i := List.take_append_of_le_length h
theorem McW.setG (h : McW m) {l : Int} {r : Option Nat} {st' : List Nat} (hr : 1 ≤ plc l ∧ plc l ≤ m.n) (h0 : valL m.vs l = 0)
    (hk : (st' = m.st ∧ ∃ k c, r = some k ∧ m.cl k = some (l :: c) ∧ ∀ x ∈ c, -x ∈ m.tr) ∨ (st' = m.st ++ [m.tr.length] ∧ r = none)) : McW (setG m l r st') where
  n := h.n
  vl := by show (setV m.vs l).length = _; rw [setV_len]; exact h.vl
  vv := h.vv.setV l
  tv := fun k => by
    show valL (setV m.vs l) k = 1 ↔ k ∈ m.tr ++ [l]
    rw [valL_setV ⟨hr.1, by rw [h.vl]; omega⟩ (by rw [h0]; decide), List.mem_append, List.mem_singleton]
    by_cases e : k = l
    · simp [e]
    · rw [if_neg e]
      by_cases e2 : k = -l
      · rw [if_pos e2]
        have : k ∉ m.tr := fun hm => h.unk h0 k hm (by rw [e2, plc_ng])
        simp [e, this]
      · rw [if_neg e2, h.tv]; simp [e]
  one := by
    show (m.tr ++ [l]).Pairwise _
    rw [List.pairwise_append]
    exact ⟨h.one, by simp, fun x hx y hy => by simp at hy; subst hy; exact h.unk h0 x hx⟩
  told := by show m.told ≤ (m.tr ++ [l]).length; rw [List.length_append]; have := h.told; omega
  sorted := by
    show st'.Pairwise _
    rcases hk with ⟨rfl, _⟩ | ⟨rfl, _⟩
    · exact h.sorted
    · rw [List.pairwise_append]
      exact ⟨h.sorted, by simp, fun x hx y hy => by simp at hy; subst hy; exact h.lt x hx⟩
  lt := by
    show ∀ s ∈ st', s < (m.tr ++ [l]).length
    rw [List.length_append]
    rcases hk with ⟨rfl, _⟩ | ⟨rfl, _⟩
    · intro s hs; have := h.lt s hs; simp; omega
    · intro s hs
      rw [List.mem_append, List.mem_singleton] at hs
      rcases hs with hs | hs
      · have := h.lt s hs; simp; omega
      · simp; omega
  lvl := fun i hi => by
    have hi' : i < m.tr.length + 1 := by rw [setG_tr, List.length_append] at hi; exact hi
    show upd m.lv (plc l) st'.length (plc ((m.tr ++ [l]).getD i 0)) = st'.countP _
    rcases Nat.lt_or_ge i m.tr.length with h1 | h1
    · rw [getD_app_l h1, upd_ne _ _ (h.unk h0 _ (by simp [List.getD, h1])), h.lvl i h1]
      rcases hk with ⟨rfl, _⟩ | ⟨rfl, _⟩
      · rfl
      · rw [List.countP_append]; simp; omega
    · obtain rfl : i = m.tr.length := by omega
      rw [getD_app_r, upd_same]
      refine (List.countP_eq_length.2 fun s hs => ?_).symm
      rcases hk with ⟨rfl, _⟩ | ⟨rfl, _⟩
      · have := h.lt s hs; simp; omega
      · rw [List.mem_append, List.mem_singleton] at hs
        rcases hs with hs | hs
        · have := h.lt s hs; simp; omega
        · simp [hs]
  mps := h.mps
  cls := h.cls
  rs0 := fun v hv => by
    have hv1 : v ≠ plc l := fun e => hv l (by rw [setG_tr]; simp) e.symm
    show upd m.rs (plc l) r v = none
    rw [upd_ne _ _ hv1]
    exact h.rs0 v fun k hk => hv k (by rw [setG_tr]; simp [hk])
  dec := fun i hi hs => by
    have hi' : i < m.tr.length + 1 := by rw [setG_tr, List.length_append] at hi; exact hi
    show upd m.rs (plc l) r (plc ((m.tr ++ [l]).getD i 0)) = none
    rcases Nat.lt_or_ge i m.tr.length with h1 | h1
    · rw [getD_app_l h1, upd_ne _ _ (h.unk h0 _ (by simp [List.getD, h1]))]
      refine h.dec i h1 ?_
      have hs' : i ∈ st' := hs
      rcases hk with ⟨rfl, _⟩ | ⟨rfl, _⟩
      · exact hs'
      · rw [List.mem_append, List.mem_singleton] at hs'
        exact hs'.resolve_right (by omega)
    · obtain rfl : i = m.tr.length := by omega
      rw [getD_app_r, upd_same]
      have hs' : m.tr.length ∈ st' := hs
      rcases hk with ⟨rfl, _⟩ | ⟨rfl, e⟩
      · exact absurd (h.lt _ hs') (by omega)
      · exact e
  rsn := fun i hi hs => by
    have hi' : i < m.tr.length + 1 := by rw [setG_tr, List.length_append] at hi; exact hi
    have hs' : i ∉ st' := hs
    show ∃ k c, upd m.rs (plc l) r (plc ((m.tr ++ [l]).getD i 0)) = some k ∧ m.cl k = some ((m.tr ++ [l]).getD i 0 :: c) ∧ ∀ x ∈ c, -x ∈ (m.tr ++ [l]).take i
    rw [take_app (by omega)]
    rcases Nat.lt_or_ge i m.tr.length with h1 | h1
    · rw [getD_app_l h1, upd_ne _ _ (h.unk h0 _ (by simp [List.getD, h1]))]
      refine h.rsn i h1 ?_
      rcases hk with ⟨rfl, _⟩ | ⟨rfl, _⟩
      · exact hs'
      · rw [List.mem_append] at hs'
        exact fun hm => hs' (.inl hm)
    · obtain rfl : i = m.tr.length := by omega
      rw [getD_app_r, upd_same, List.take_of_length_le (Nat.le_refl _)]
      rcases hk with ⟨rfl, k, c, e, h2, h3⟩ | ⟨rfl, _⟩
      · exact ⟨k, c, e, h2, h3⟩
      · exact absurd (by simp) hs'

/-! ### The lists -/
/-- What holds of the lists; F: those that nothing tells. -/
structure McL (m : Mc) (F : Nat → Prop) : Prop where
  tdn : m.td.Nodup
  tdF : ∀ i ∈ m.td, F i ∧ ∃ c, m.cl i = some c
  ltN : ∀ v, (m.lt v).Nodup
  ltc : ∀ v i, i ∈ m.lt v → ¬ F i ∧ ∃ a r, m.cl i = some (a :: r) ∧ plc a = v ∧ a ∈ m.tr
  wtN : ∀ j, (m.wt j).Nodup
  wtc : ∀ j i, i ∈ m.wt j → ¬ F i ∧ ∃ a b r, m.cl i = some (a :: b :: r) ∧ (j = wx a ∨ j = wx b)
  wtd : ∀ i c, m.cl i = some c → ¬ F i → c ≠ [] ∧ ∀ a b r, c = a :: b :: r → i ∈ m.wt (wx a) ∧ i ∈ m.wt (wx b)

/-- What is told of a clause that is not to be looked at; t: how many have told. -/
def Sm (m : Mc) (t i : Nat) : Prop := ∀ c, m.cl i = some c → match c with
  | [] => False
  | [a] => a ∈ m.tr ∧ (i ∈ m.lt (plc a) ↔ 0 < m.lv (plc a))
  | a :: b :: _ => -a ∉ m.tr.take t ∧ (i ∈ m.lt (plc a) ↔ -b ∈ m.tr.take t ∧ m.lv (plc b) < m.lv (plc a)) ∧ (-b ∈ m.tr.take t → a ∈ m.tr)

/-- A state that is at rest. -/
structure McI (m : Mc) : Prop where
  w : McW m
  l : McL m (· ∈ m.td)
  s : ∀ i, i ∉ m.td → Sm m m.told i
  r : ∀ i ∈ m.td, ∀ v, m.rs v ≠ some i

theorem McL.congr {m m' : Mc} {F F' : Nat → Prop} (h : McL m F) (hF : ∀ i, F i ↔ F' i) (h1 : m'.td = m.td) (h2 : m'.lt = m.lt) (h3 : m'.wt = m.wt) (h4 : m'.cl = m.cl) (h5 : ∀ l ∈ m.tr, l ∈ m'.tr) : McL m' F' where
  tdn := by rw [h1]; exact h.tdn
  tdF := fun i hi => by rw [h1] at hi; rw [h4]; exact ⟨(hF i).1 (h.tdF i hi).1, (h.tdF i hi).2⟩
  ltN := by rw [h2]; exact h.ltN
  ltc := fun v i hi => by
    rw [h2] at hi
    obtain ⟨a, b, r, e1, e2, e3⟩ := h.ltc v i hi
    exact ⟨fun hf => a ((hF i).2 hf), b, r, by rw [h4]; exact e1, e2, h5 _ e3⟩
  wtN := by rw [h3]; exact h.wtN
  wtc := fun j i hi => by
    rw [h3] at hi
    obtain ⟨a, b, c, r, e1, e2⟩ := h.wtc j i hi
    exact ⟨fun hf => a ((hF i).2 hf), b, c, r, by rw [h4]; exact e1, e2⟩
  wtd := fun i c hc hf => by
    rw [h4] at hc
    rw [h3]
    exact h.wtd i c hc fun hf' => hf ((hF i).1 hf')
theorem McL.setG {F : Nat → Prop} (h : McL m F) (l : Int) (r : Option Nat) (st' : List Nat) : McL (setG m l r st') F := h.congr (fun _ => Iff.rfl) rfl rfl rfl rfl (fun x hx => by rw [setG_tr]; simp [hx])
/-- Setting leaves what was told. -/
theorem Sm.setG (hw : McW m) {t i : Nat} (ht : t ≤ m.tr.length) (h : Sm m t i) {l : Int} (h0 : valL m.vs l = 0) (r : Option Nat) (st' : List Nat) : Sm (setG m l r st') t i := by
  intro c hc
  have := h c hc
  have lvk : ∀ a ∈ m.tr, upd m.lv (plc l) st'.length (plc a) = m.lv (plc a) := fun a ha => upd_ne _ _ (hw.unk h0 a ha)
  match c, this with
  | [a], ⟨h1, h2⟩ =>
    show a ∈ m.tr ++ [l] ∧ (i ∈ m.lt (plc a) ↔ 0 < upd m.lv (plc l) st'.length (plc a))
    rw [lvk a h1]
    exact ⟨by simp [h1], h2⟩
  | a :: b :: _, ⟨h1, h2, h3⟩ =>
    show -a ∉ (m.tr ++ [l]).take t ∧ (i ∈ m.lt (plc a) ↔ -b ∈ (m.tr ++ [l]).take t ∧ upd m.lv (plc l) st'.length (plc b) < upd m.lv (plc l) st'.length (plc a)) ∧ (-b ∈ (m.tr ++ [l]).take t → a ∈ m.tr ++ [l])
    rw [take_app ht]
    refine ⟨h1, ?_, fun hb => by simp [h3 hb]⟩
    by_cases hb : -b ∈ m.tr.take t
    · have ha := h3 hb
      have hb' := List.mem_of_mem_take hb
      rw [h2, lvk a ha, show plc b = plc (-b) from (plc_ng b).symm, lvk _ hb']
    · rw [h2]; simp [hb]

/-! ### At rest, all told -/
theorem McI.clo (h : McI m) (ht : m.told = m.tr.length) (hd : m.td = []) : ∀ i c, m.cl i = some c → (∃ l ∈ c, l ∈ m.tr) ∨ ∃ a ∈ c, ∃ b ∈ c, a ≠ b ∧ -a ∉ m.tr ∧ -b ∉ m.tr := by
  intro i c hc
  have hs := h.s i (by rw [hd]; simp) c hc
  have htk : m.tr.take m.told = m.tr := by rw [ht]; exact List.take_of_length_le (Nat.le_refl _)
  match c, hs, hc with
  | [a], ⟨h1, _⟩, _ => exact .inl ⟨a, by simp, h1⟩
  | a :: b :: r, ⟨h1, _, h3⟩, hc =>
    rw [htk] at h1 h3
    by_cases hb : -b ∈ m.tr
    · exact .inl ⟨a, by simp, h3 hb⟩
    · refine .inr ⟨a, by simp, b, by simp, ?_, h1, hb⟩
      have := (h.w.cls i _ hc).2.1
      simp at this
      exact fun e => this.1.1 e
end
end Go.Proofs.Ytmlgpnaikdpifaa

namespace Go.Proofs.Ytmlgpnaikdpifaa
open Go.RowKit

inductive Rl where
  | p | a | v | mp | tr | st | td | w (j : Nat) | l (v : Nat) | c (i : Nat) | d (i : Nat)

structure Lay where
  p : Nat
  ap : Nat
  aq : Nat
  vb : Nat
  vc : Nat
  mb : Nat
  trv : Value
  stv : Value
  tdv : Value
  wv : Nat → Value
  lw : Nat → Value
  cb : Nat → Nat
  cv : Nat → Value

def ptrC (L : Lay) (i : Nat) : Value := .pointer (some ⟨L.cb i, 0, none⟩)
def ptrO (L : Lay) : Option Nat → Value
  | none => .pointer none
  | some i => ptrC L i
def nilS : Value := .slice none 0 0
/-- A variable's cells. -/
def vcell (L : Lay) (m : Mc) (v : Nat) : Nat → Value
  | 0 => .int .i64 (m.lv v : Int)
  | 1 => ptrO L (m.rs v)
  | 2 => L.wv (2 * v)
  | 3 => L.wv (2 * v + 1)
  | _ => L.lw v
def vcells (L : Lay) (m : Mc) : List Value := (List.range ((m.n + 1) * 5)).map fun i => vcell L m (i / 5) (i % 5)
theorem vcells_len (L : Lay) (m : Mc) : (vcells L m).length = (m.n + 1) * 5 := by unfold vcells; simp
theorem vcells_at (L : Lay) (m : Mc) (i : Nat) (h : i < (vcells L m).length) : (vcells L m)[i] = vcell L m (i / 5) (i % 5) := by simp [vcells]
theorem vcells_get (L : Lay) (m : Mc) {v k : Nat} (hv : v ≤ m.n) (hk : k < 5) : (vcells L m)[v * 5 + k]? = some (vcell L m v k) := by
  have h1 : v * 5 + k < (vcells L m).length := by rw [vcells_len]; omega
  rw [List.getElem?_eq_getElem h1, vcells_at, show (v * 5 + k) / 5 = v by omega, show (v * 5 + k) % 5 = k by omega]
theorem vcells_set {L L' : Lay} {m m' : Mc} {v k : Nat} (hk : k < 5) (hn : m'.n = m.n) (h : ∀ x y, y < 5 → ¬(x = v ∧ y = k) → vcell L' m' x y = vcell L m x y) : (vcells L m).set (v * 5 + k) (vcell L' m' v k) = vcells L' m' := by
  apply List.ext_getElem (by rw [List.length_set, vcells_len, vcells_len, hn])
  intro i h1 h2
  rw [List.getElem_set, vcells_at]
  split
  · rename_i e
    subst e
    rw [vcells_at, show (v * 5 + k) / 5 = v by omega, show (v * 5 + k) % 5 = k by omega]
  · rename_i e
    rw [vcells_at]
    exact (h (i / 5) (i % 5) (by omega) (fun ⟨e1, e2⟩ => e (by omega))).symm

/-- How a pointer in the map reads. -/
def ptrElem : Value → Option (DataW Nat × List MemPlace)
  | .pointer none => some (.nil, [])
  | .pointer (some ⟨b, 0, none⟩) => some (.held b, [])
  | _ => none
theorem ptrElem_inv_nil {v : Value} {ps : List MemPlace} (h : ptrElem v = some (.nil, ps)) : v = .pointer none := by
  unfold ptrElem at h
  split at h
  · rfl
  · cases h
  · cases h
theorem ptrElem_inv {v : Value} {b : Nat} {ps : List MemPlace} (h : ptrElem v = some (.held b, ps)) : v = .pointer (some ⟨b, 0, none⟩) := by
  unfold ptrElem at h
  split at h
  · cases h
  · injection h with h
    injection h with h _
    injection h with h
    subst h; rfl
  · cases h

def atC (mp : Nat → Bool) (cb : Nat → Nat) (i : Int) : DataW Nat := if 0 ≤ i ∧ mp i.toNat = true then .held (cb i.toNat) else .nil
def MapC (w : World) (mb nx : Nat) (mp : Nat → Bool) (cb : Nat → Nat) : Prop := ∃ N D, w.ownsMap (H := Nat) Try.prog 3 ptrElem mb N D ∧ N ≤ nx ∧ ∀ i : Int, -9223372036854775808 ≤ i → i ≤ 9223372036854775807 → D.atKey (.int .i64 i) .nil = atC mp cb i

structure PropC (w : World) (L : Lay) (n told nx : Nat) : Prop where
  c0 : w.cell? ⟨L.p, 0, none⟩ = some (.pointer (some ⟨L.ap, 0, none⟩))
  c1 : w.cell? ⟨L.p, 1, none⟩ = some (.slice (some ⟨L.vb, 0, none⟩) (n + 1) L.vc)
  c2 : w.cell? ⟨L.p, 2, none⟩ = some L.trv
  c3 : w.cell? ⟨L.p, 3, none⟩ = some (.int .i64 (told : Int))
  c4 : w.cell? ⟨L.p, 4, none⟩ = some L.stv
  c5 : w.cell? ⟨L.p, 5, none⟩ = some (.map (some L.mb))
  c6 : w.cell? ⟨L.p, 6, none⟩ = some (.int .i64 (nx : Int))
  c7 : w.cell? ⟨L.p, 7, none⟩ = some L.tdv
  fr : ∀ i, w.frozen? ⟨L.p, i, none⟩ = false

def RolA (ρ : Nat → Option Rl) (w : World) (r : Rl) (e : TypeId) (v : Value) (xs : List Value) : Prop := w.ownsRow 0 e 1 v xs.length xs ∧ ∀ k, v.ownBlock = some k → ρ k = some r

def At (ρ : Nat → Option Rl) (w : World) (L : Lay) (m : Mc) : Rl → Prop
  | .p => ρ L.p = some .p ∧ PropC w L m.n m.told m.nx
  | .a => ρ L.ap = some .a ∧ ρ L.aq = some .a ∧ Asg w 0 (.pointer (some ⟨L.ap, 0, none⟩)) L.ap L.aq m.vs
  | .v => ρ L.vb = some .v ∧ w.ownsRow 0 85 5 (.slice (some ⟨L.vb, 0, none⟩) (m.n + 1) L.vc) (m.n + 1) (vcells L m)
  | .mp => ρ L.mb = some .mp ∧ MapC w L.mb m.nx m.mp L.cb
  | .tr => RolA ρ w .tr 3 L.trv (m.tr.map (Value.int .i64))
  | .st => RolA ρ w .st 3 L.stv (m.st.map fun (s : Nat) => Value.int .i64 (s : Int))
  | .td => RolA ρ w .td 73 L.tdv (m.td.map (ptrC L))
  | .w j => RolA ρ w (.w j) 73 (L.wv j) ((m.wt j).map (ptrC L))
  | .l v => RolA ρ w (.l v) 73 (L.lw v) ((m.lt v).map (ptrC L))
  | .c i => ∀ c, m.cl i = some c → ρ (L.cb i) = some (.c i) ∧ w.heap[L.cb i]? = some (.cells #[.int .i64 (i : Int), L.cv i] 75 (0, 0))
  | .d i => ∀ c, m.cl i = some c → RolA ρ w (.d i) 3 (L.cv i) (c.map (Value.int .i64))

structure MA (w : World) (ρ : Nat → Option Rl) (L : Lay) (m : Mc) : Prop where
  lt : ∀ b r, ρ b = some r → b < w.heap.size
  hi : ∀ v, m.n < v → L.wv (2 * v) = nilS ∧ L.wv (2 * v + 1) = nilS ∧ L.lw v = nilS ∧ m.lv v = 0 ∧ m.rs v = none
  at' : ∀ r, At ρ w L m r

/-- Of what was there only blocks with a role may have turned, and only new ones have come to have one. -/
structure Chr (ρ : Nat → Option Rl) (w : World) (ρ' : Nat → Option Rl) (w' : World) : Prop where
  os : w'.os = w.os
  tape : w'.tape = w.tape
  output : w'.output = w.output
  size : w.heap.size ≤ w'.heap.size
  block : ∀ i, i < w.heap.size → ρ i = none → w'.heap[i]? = w.heap[i]?
  old : ∀ i, i < w.heap.size → ρ i = none → ρ' i = none
section
variable {w w' w'' : World} {ρ ρ' ρ'' : Nat → Option Rl} {L L' : Lay} {m m' : Mc}
theorem Chr.refl (ρ : Nat → Option Rl) (w : World) : Chr ρ w ρ w := ⟨rfl, rfl, rfl, Nat.le_refl _, fun _ _ _ => rfl, fun _ _ h => h⟩
theorem Chr.trans (h : Chr ρ w ρ' w') (k : Chr ρ' w' ρ'' w'') : Chr ρ w ρ'' w'' :=
  ⟨k.os.trans h.os, k.tape.trans h.tape, k.output.trans h.output, Nat.le_trans h.size k.size,
    fun i hi hn => (k.block i (Nat.lt_of_lt_of_le hi h.size) (h.old i hi hn)).trans (h.block i hi hn),
    fun i hi hn => k.old i (Nat.lt_of_lt_of_le hi h.size) (h.old i hi hn)⟩
theorem Chr.of_below (hb : Below w.heap.size w w') : Chr ρ w ρ w' := ⟨hb.os, hb.tape, hb.output, hb.size, fun i hi _ => hb.block i hi, fun _ _ h => h⟩
theorem Chr.drewN (h : Chr ρ w ρ' w') (k : Nat) : Chr ρ w ρ' (w'.drewN k) := h.trans (Chr.of_below (below_draws ⟨k, rfl⟩))
/-- Only block b, which has a role, has turned. -/
theorem Chr.of_only {b : Nat} {r : Rl} (hr : ρ b = some r) (h : Only b w w') : Chr ρ w ρ w' :=
  ⟨h.os, h.tape, h.output, h.size, fun i hi hn => h.block i hi (fun e => by injection e with e; rw [e, hr] at hn; cases hn), fun _ _ h => h⟩
theorem Chr.setCell (h : Chr ρ w ρ' w') {b o : Nat} {r : Rl} (hr : ρ' b = some r) (u : Value) : Chr ρ w ρ' (w'.setCell ⟨b, o, none⟩ u) := h.trans (Chr.of_only hr (Only.setCell _ _ _ _))

theorem row_keep {r : Rl} {e : TypeId} {v : Value} {xs : List Value} (h : RolA ρ w r e v xs) (hk : ∀ b, ρ b = some r → ρ' b = some r ∧ w'.heap[b]? = w.heap[b]?) : RolA ρ' w' r e v xs := by
  obtain ⟨⟨h1, h2⟩, h3⟩ := h
  refine ⟨⟨h1, ?_⟩, fun k hk' => (hk k (h3 k hk')).1⟩
  rcases h2 with h2 | ⟨g, cap, cur, hv, hg, hh, q⟩
  · exact .inl h2
  · exact .inr ⟨g, cap, cur, hv, hg, ((hk g (h3 g (by rw [hv]; rfl))).2).trans hh, q⟩
theorem PropC.keep {n told nx : Nat} (h : PropC w L n told nx) (hk : w'.heap[L.p]? = w.heap[L.p]?) : PropC w' L n told nx := by
  have hc : ∀ o, w'.cell? ⟨L.p, o, none⟩ = w.cell? ⟨L.p, o, none⟩ := fun o => World.cell?_of_block (a := ⟨L.p, o, none⟩) hk
  exact ⟨(hc _).trans h.c0, (hc _).trans h.c1, (hc _).trans h.c2, (hc _).trans h.c3, (hc _).trans h.c4, (hc _).trans h.c5, (hc _).trans h.c6, (hc _).trans h.c7, fun i => (World.frozen?_of_block (a := ⟨L.p, i, none⟩) hk).trans (h.fr i)⟩
theorem MapC.keep {mb nx : Nat} {mp : Nat → Bool} {cb : Nat → Nat} (h : MapC w mb nx mp cb) (hk : w'.heap[mb]? = w.heap[mb]?) : MapC w' mb nx mp cb := by
  obtain ⟨N, D, ⟨es, clock, h1, h2⟩, h3⟩ := h
  exact ⟨N, D, ⟨es, clock, hk.trans h1, h2⟩, h3⟩
theorem own_block {B : Nat} {e : TypeId} {size g n cap : Nat} {xs : List Value} (h : w.ownsRow B e size (.slice (some ⟨g, 0, none⟩) n cap) n xs) (hk : w'.heap[g]? = w.heap[g]?) : w'.ownsRow B e size (.slice (some ⟨g, 0, none⟩) n cap) n xs := by
  obtain ⟨h1, h2⟩ := h
  refine ⟨h1, ?_⟩
  rcases h2 with h2 | ⟨g', cap', cur, hv, hg, hh, q⟩
  · exact .inl h2
  · injection hv with e1 _ e3
    injection e1 with e1
    injection e1 with e1
    subst e1; subst e3
    exact .inr ⟨g, cap, cur, rfl, hg, hk.trans hh, q⟩
theorem At.keep {r : Rl} (hlt : ∀ b, ρ b = some r → b < w.heap.size) (hs : w.heap.size ≤ w'.heap.size) (h : At ρ w L m r) (hk : ∀ b, ρ b = some r → ρ' b = some r ∧ w'.heap[b]? = w.heap[b]?) : At ρ' w' L m r := by
  cases r with
  | p => exact ⟨(hk _ h.1).1, h.2.keep (hk _ h.1).2⟩
  | a => exact ⟨(hk _ h.1).1, (hk _ h.2.1).1, h.2.2.keepB hs (hk _ h.1).2 (hk _ h.2.1).2⟩
  | v => exact ⟨(hk _ h.1).1, own_block h.2 (hk _ h.1).2⟩
  | mp => exact ⟨(hk _ h.1).1, h.2.keep (hk _ h.1).2⟩
  | tr => exact row_keep h hk
  | st => exact row_keep h hk
  | td => exact row_keep h hk
  | w j => exact row_keep h hk
  | l v => exact row_keep h hk
  | c i =>
    intro c hc
    obtain ⟨h1, h2⟩ := h c hc
    exact ⟨(hk _ h1).1, (hk _ h1).2.trans h2⟩
  | d i => exact fun c hc => row_keep (h c hc) hk
/-- Nothing of it has turned. -/
theorem MA.same (h : MA w ρ L m) (hs : w.heap.size ≤ w'.heap.size) (hk : ∀ b r, ρ b = some r → w'.heap[b]? = w.heap[b]?) : MA w' ρ L m :=
  ⟨fun b r hb => Nat.lt_of_lt_of_le (h.lt b r hb) hs, h.hi, fun r => (h.at' r).keep (fun b hb => h.lt b r hb) hs fun b hb => ⟨hb, hk b r hb⟩⟩
theorem MA.below (h : MA w ρ L m) (hb : Below w.heap.size w w') : MA w' ρ L m := h.same hb.size fun b r hr => hb.block b (h.lt b r hr)
theorem MA.drewN (h : MA w ρ L m) (k : Nat) : MA (w.drewN k) ρ L m := h.below (below_draws ⟨k, rfl⟩)
/-- Only block b has turned: the other roles' memory is as it was. -/
theorem MA.rest {b : Nat} {r0 : Rl} (h : MA w ρ L m) (hr : ρ b = some r0) (ho : Only b w w') {r : Rl} (hne : r ≠ r0) : At ρ w' L m r :=
  (h.at' r).keep (fun b hb => h.lt b r hb) ho.size fun b' hb' => ⟨hb', ho.block b' (h.lt b' r hb') (fun e => by injection e with e; subst e; rw [hr] at hb'; injection hb' with hb'; exact hne hb'.symm)⟩
theorem MA.lt' (h : MA w ρ L m) (hs : w.heap.size ≤ w'.heap.size) : ∀ b r, ρ b = some r → b < w'.heap.size := fun b r hb => Nat.lt_of_lt_of_le (h.lt b r hb) hs
theorem only_size {b : Nat} (h : Only b w w') : w.heap.size ≤ w'.heap.size := h.size

theorem MA.pc (h : MA w ρ L m) : PropC w L m.n m.told m.nx := (h.at' .p).2
theorem MA.asg (h : MA w ρ L m) : Asg w 0 (.pointer (some ⟨L.ap, 0, none⟩)) L.ap L.aq m.vs := (h.at' .a).2.2
theorem MA.var (h : MA w ρ L m) {v k : Nat} (hv : v ≤ m.n) (hk : k < 5) : w.cell? ⟨L.vb, v * 5 + k, none⟩ = some (vcell L m v k) := own_cell (h.at' .v).2 (vcells_get L m hv hk)
theorem MA.varF (h : MA w ρ L m) (i : Nat) : w.frozen? ⟨L.vb, i, none⟩ = false := own_frozen (h.at' .v).2 i
end
end Go.Proofs.Ytmlgpnaikdpifaa

namespace Go.Proofs.Ytmlgpnaikdpifaa
open Go.RowKit

def ptrP (L : Lay) : Value := .pointer (some ⟨L.p, 0, none⟩)
def isM (n : Nat) (l : Int) : Bool := decide (1 ≤ absI l) && decide (absI l ≤ (n : Int))
theorem isM_iff {n : Nat} {l : Int} : isM n l = true ↔ 1 ≤ plc l ∧ plc l ≤ n := by
  unfold isM
  have := plc_abs l
  simp
  omega
section
variable {w : World} {ρ : Nat → Option Rl} {L : Lay} {m : Mc}

set_option maxRecDepth 8000 in
set_option maxHeartbeats 400000 in
theorem mis_any (h : MA w ρ L m) (l : Int) (h1 : -9223372036854775807 ≤ l) (h2 : l ≤ 9223372036854775807) (hn : m.n ≤ 4000) :
    Calls Try.prog 42 #[ptrP L, .int .i64 l] w fun e w' => e = .returned (.bool (isM m.n l)) ∧ w = w' := by
  have HI := Lib.hid (is_any l (m.n : Int) w h1 h2)
  have c1 := h.pc.c1
  have HU : Hid (isM m.n l = (decide (1 ≤ absI l) && decide (absI l ≤ (m.n : Int)))) := rfl
  clear h
  unfold ptrP
  generalize m.n = n at *
  go_enter Try.func42, Try.ntmps42
  go_wp2_with fail
  refine HI.out.mono ?_
  rintro e w' ⟨rfl, rfl⟩
  go_wp2_with fail
  go_ret
  exact ⟨ret_bool HU.out.symm, rfl⟩

set_option maxRecDepth 8000 in
set_option maxHeartbeats 400000 in
theorem mval_any (h : MA w ρ L m) (l : Int) (h1 : -9223372036854775807 ≤ l) (h2 : l ≤ 9223372036854775807) :
    Calls Try.prog 17 #[ptrP L, .int .i64 l] w fun e w' => e = .returned (.int .i64 (valL m.vs l)) ∧ w = w' := by
  have HI := Lib.hid (value_any h.asg l h1 h2)
  have c0 := h.pc.c0
  clear h
  unfold ptrP
  generalize valL m.vs l = x at *
  go_enter Try.func17, Try.ntmps17
  go_wp2_with fail
  refine HI.out.mono ?_
  rintro e w' ⟨rfl, rfl⟩
  go_wp2_with fail
  go_ret
  exact ⟨rfl, rfl⟩

theorem ro_shape {r : Rl} {e : TypeId} {v : Value} {xs : List Value} (h : RolA ρ w r e v xs) : ∃ a c, v = .slice a xs.length c ∧ xs.length ≤ c ∧ c ≤ maxLen := own_shape h.1

set_option maxRecDepth 8000 in
set_option maxHeartbeats 400000 in
theorem mlvl_any (h : MA w ρ L m) :
    Calls Try.prog 24 #[ptrP L] w fun e w' => e = .returned (.int .i64 (m.st.length : Int)) ∧ w = w' := by
  have c4 := h.pc.c4
  obtain ⟨a, c, e, _⟩ := ro_shape (h.at' .st)
  rw [e, List.length_map] at c4
  clear h e
  unfold ptrP
  generalize m.st.length = k at *
  go_enter Try.func24, Try.ntmps24
  go_wp2
  go_ret
  exact ⟨rfl, rfl⟩

def knownM (m : Mc) (x : Int) : Bool := decide (0 < x) && !(valL m.vs x == 0)

set_option maxRecDepth 8000 in
set_option maxHeartbeats 400000 in
theorem mkno_any (h : MA w ρ L m) (x : Int) (h1 : -9223372036854775807 ≤ x) (h2 : x ≤ 9223372036854775807) :
    Calls Try.prog 67 #[ptrP L, .int .i64 x] w fun e w' => e = .returned (.bool (knownM m x)) ∧ w = w' := by
  have HI := Lib.hid (mval_any h x h1 h2)
  have HU : Hid (knownM m x = (decide (0 < x) && !(valL m.vs x == 0))) := rfl
  clear h
  generalize valL m.vs x = y at *
  cases hp : decide (0 < x) with
  | false =>
    rw [hp] at HU
    go_enter Try.func67, Try.ntmps67
    go_wp2_with fail
    go_ret
    exact ⟨ret_bool HU.out.symm, rfl⟩
  | true =>
    rw [hp] at HU
    go_enter Try.func67, Try.ntmps67
    go_wp2_with fail
    refine HI.out.mono ?_
    rintro e w' ⟨rfl, rfl⟩
    go_wp2_with fail
    go_ret
    exact ⟨ret_bool (by rw [HU.out]; cases hy : (y == 0) <;> simp_all), rfl⟩

set_option maxRecDepth 8000 in
set_option maxHeartbeats 400000 in
theorem mlev_any (h : MA w ρ L m) (x : Int) (h1 : -9223372036854775807 ≤ x) (h2 : x ≤ 9223372036854775807) (hk : knownM m x = true → x ≤ (m.n : Int)) (hn : m.n ≤ 4000) :
    Calls Try.prog 30 #[ptrP L, .int .i64 x] w fun e w' => e = .returned (.int .i64 (if knownM m x = true then (m.lv x.toNat : Int) else -1)) ∧ w = w' := by
  have HI := Lib.hid (mkno_any h x h1 h2)
  cases hb : knownM m x with
  | false =>
    rw [hb] at HI
    clear h hk hb
    go_enter Try.func30, Try.ntmps30
    go_wp2_with fail
    refine HI.out.mono ?_
    rintro e w' ⟨rfl, rfl⟩
    go_wp2_with fail
    go_ret
    exact ⟨rfl, rfl⟩
  | true =>
    rw [hb] at HI
    rw [if_pos rfl]
    have hx := hk hb
    have h0 : 0 < x := by unfold knownM at hb; simp at hb; exact hb.1
    obtain ⟨v, rfl⟩ := Int.eq_ofNat_of_zero_le (show 0 ≤ x by omega)
    have c1 := h.pc.c1
    have g0 := h.var (v := v) (k := 0) (by omega) (by omega)
    rw [show vcell L m v 0 = .int .i64 (m.lv v : Int) from rfl, Nat.add_zero] at g0
    rw [Int.toNat_natCast]
    have hv : v < m.n + 1 := by omega
    clear h hk hb hx
    unfold ptrP at *
    generalize m.lv v = y at *
    generalize m.n = n at *
    go_enter Try.func30, Try.ntmps30
    go_wp2_with fail
    refine HI.out.mono ?_
    rintro e w' ⟨rfl, rfl⟩
    go_wp2_with fail
    go_ret
    exact ⟨rfl, rfl⟩

set_option maxRecDepth 8000 in
set_option maxHeartbeats 1000000 in
theorem mof_any (h : MA w ρ L m) (l : Int) (hl : plc l ≤ m.n) (hn : m.n ≤ 4000) :
    Calls Try.prog 55 #[ptrP L, .int .i64 l] w fun e w' => e = .returned (.pointer (some ⟨L.vb, plc l * 5, none⟩)) ∧ ∃ t, w' = w.drewN t := by
  have e := plc_abs l
  have hb : -4000 ≤ l ∧ l ≤ 4000 := by unfold absI at e; split at e <;> omega
  have HV := Lib.hid (fun W => var_any l W (by omega) (by omega))
  rw [← e] at HV
  have c1 := h.pc.c1
  clear h hb
  unfold ptrP
  generalize plc l = v at *
  clear e
  have hv : v < m.n + 1 := by omega
  generalize m.n = n at *
  go_enter Try.func55, Try.ntmps55
  go_wp2_with fail
  go_quiet ((refine (HV.out _).mono ?_; rintro e w' ⟨rfl, rfl⟩; exact ⟨rfl, _, rfl⟩))
  go_wp2
  go_ret
  exact ⟨rfl, _, rfl⟩

set_option maxRecDepth 8000 in
set_option maxHeartbeats 1000000 in
theorem mwat_any (h : MA w ρ L m) (l : Int) (hl : plc l ≤ m.n) (hn : m.n ≤ 4000) :
    Calls Try.prog 80 #[ptrP L, .int .i64 l] w fun e w' => e = .returned (.pointer (some ⟨L.vb, plc l * 5 + (if l < 0 then 3 else 2), none⟩)) ∧ ∃ t, w' = w.drewN t := by
  have HO := Lib.hid (mof_any h l hl hn)
  clear h
  by_cases h0 : l < 0
  · rw [if_pos h0]
    go_enter Try.func80, Try.ntmps80
    go_wp2_with fail
    refine HO.out.mono ?_
    rintro e w' ⟨rfl, t, rfl⟩
    go_wp2_with fail
    go_ret
    exact ⟨rfl, _, rfl⟩
  · rw [if_neg h0]
    go_enter Try.func80, Try.ntmps80
    go_wp2_with fail
    refine HO.out.mono ?_
    rintro e w' ⟨rfl, t, rfl⟩
    go_wp2_with fail
    go_ret
    exact ⟨rfl, _, rfl⟩

def ffM (m : Mc) (l : Int) : Nat := if valL m.vs l = 2 then m.lv (plc l) else m.st.length + 1

set_option maxRecDepth 8000 in
set_option maxHeartbeats 1000000 in
theorem mff_any (h : MA w ρ L m) (l : Int) (hl : plc l ≤ m.n) (hn : m.n ≤ 4000) (hs : m.st.length ≤ 4000) :
    Calls Try.prog 96 #[ptrP L, .int .i64 l] w fun e w' => e = .returned (.int .i64 (ffM m l : Int)) ∧ ∃ t, w' = w.drewN t := by
  have e := plc_abs l
  have hb : -4000 ≤ l ∧ l ≤ 4000 := by unfold absI at e; split at e <;> omega
  have HV := Lib.hid (mval_any h l (by omega) (by omega))
  have HL := Lib.hid (mlvl_any h)
  have HO := Lib.hid (mof_any h l hl hn)
  have g0 := h.var (v := plc l) (k := 0) hl (by omega)
  rw [show vcell L m (plc l) 0 = .int .i64 (m.lv (plc l) : Int) from rfl, Nat.add_zero] at g0
  have HF : Hid (ffM m l = if valL m.vs l = 2 then m.lv (plc l) else m.st.length + 1) := rfl
  rw [HF.out]
  clear h e hb hl hn
  generalize m.st.length = k at *
  generalize m.lv (plc l) = y at *
  generalize valL m.vs l = x at *
  by_cases hx : x = 2
  · rw [if_pos hx]
    have hx' : (x == 2) = true := by simp [hx]
    have hx2 : (x != 2) = false := by simp [hx]
    clear hx
    go_enter Try.func96, Try.ntmps96
    go_wp2_with fail
    refine HV.out.mono ?_
    rintro e w' ⟨rfl, rfl⟩
    go_wp2_with fail
    refine HO.out.mono ?_
    rintro e w' ⟨rfl, t, rfl⟩
    go_wp2_with fail
    go_ret
    exact ⟨rfl, _, rfl⟩
  · rw [if_neg hx]
    have hx' : (x == 2) = false := by simp [hx]
    have hx2 : (x != 2) = true := by simp [hx]
    clear hx
    go_enter Try.func96, Try.ntmps96
    go_wp2_with fail
    refine HV.out.mono ?_
    rintro e w' ⟨rfl, rfl⟩
    go_wp2_with fail
    refine HL.out.mono ?_
    rintro e w' ⟨rfl, rfl⟩
    go_wp2_with fail
    go_ret
    exact ⟨ret_int (by omega), 0, rfl⟩

end
end Go.Proofs.Ytmlgpnaikdpifaa

namespace Go.Proofs.Ytmlgpnaikdpifaa
open Go.RowKit

section
variable {w w' : World} {ρ ρ' : Nat → Option Rl} {L : Lay} {m : Mc}

/-! ### The prop's own cells -/
theorem PropC.set2 {n told nx : Nat} (h : PropC w L n told nx) (u : Value) : PropC (w.setCell ⟨L.p, 2, none⟩ u) { L with trv := u } n told nx :=
  ⟨(set_off (.inr (by decide))).trans h.c0, (set_off (.inr (by decide))).trans h.c1, set_at h.c2, (set_off (.inr (by decide))).trans h.c3, (set_off (.inr (by decide))).trans h.c4, (set_off (.inr (by decide))).trans h.c5, (set_off (.inr (by decide))).trans h.c6, (set_off (.inr (by decide))).trans h.c7, fun i => set_fr (h.fr i)⟩
theorem PropC.set3 {n told nx : Nat} (h : PropC w L n told nx) (k : Nat) : PropC (w.setCell ⟨L.p, 3, none⟩ (.int .i64 (k : Int))) L n k nx :=
  ⟨(set_off (.inr (by decide))).trans h.c0, (set_off (.inr (by decide))).trans h.c1, (set_off (.inr (by decide))).trans h.c2, set_at h.c3, (set_off (.inr (by decide))).trans h.c4, (set_off (.inr (by decide))).trans h.c5, (set_off (.inr (by decide))).trans h.c6, (set_off (.inr (by decide))).trans h.c7, fun i => set_fr (h.fr i)⟩
theorem PropC.set4 {n told nx : Nat} (h : PropC w L n told nx) (u : Value) : PropC (w.setCell ⟨L.p, 4, none⟩ u) { L with stv := u } n told nx :=
  ⟨(set_off (.inr (by decide))).trans h.c0, (set_off (.inr (by decide))).trans h.c1, (set_off (.inr (by decide))).trans h.c2, (set_off (.inr (by decide))).trans h.c3, set_at h.c4, (set_off (.inr (by decide))).trans h.c5, (set_off (.inr (by decide))).trans h.c6, (set_off (.inr (by decide))).trans h.c7, fun i => set_fr (h.fr i)⟩
theorem PropC.set6 {n told nx : Nat} (h : PropC w L n told nx) (k : Nat) : PropC (w.setCell ⟨L.p, 6, none⟩ (.int .i64 (k : Int))) L n told k :=
  ⟨(set_off (.inr (by decide))).trans h.c0, (set_off (.inr (by decide))).trans h.c1, (set_off (.inr (by decide))).trans h.c2, (set_off (.inr (by decide))).trans h.c3, (set_off (.inr (by decide))).trans h.c4, (set_off (.inr (by decide))).trans h.c5, set_at h.c6, (set_off (.inr (by decide))).trans h.c7, fun i => set_fr (h.fr i)⟩
theorem PropC.set7 {n told nx : Nat} (h : PropC w L n told nx) (u : Value) : PropC (w.setCell ⟨L.p, 7, none⟩ u) { L with tdv := u } n told nx :=
  ⟨(set_off (.inr (by decide))).trans h.c0, (set_off (.inr (by decide))).trans h.c1, (set_off (.inr (by decide))).trans h.c2, (set_off (.inr (by decide))).trans h.c3, (set_off (.inr (by decide))).trans h.c4, (set_off (.inr (by decide))).trans h.c5, (set_off (.inr (by decide))).trans h.c6, set_at h.c7, fun i => set_fr (h.fr i)⟩

theorem MA.rp (h : MA w ρ L m) : ρ L.p = some .p := (h.at' .p).1
theorem MA.rv (h : MA w ρ L m) : ρ L.vb = some .v := (h.at' .v).1
theorem MA.setTold (h : MA w ρ L m) (k : Nat) : MA (w.setCell ⟨L.p, 3, none⟩ (.int .i64 (k : Int))) ρ L { m with told := k } where
  lt := h.lt' (Only.setCell _ _ _ _).size
  hi := h.hi
  at' := fun r => by
    have hk : r ≠ .p → At ρ (w.setCell ⟨L.p, 3, none⟩ (.int .i64 (k : Int))) L m r := fun hne => h.rest h.rp (Only.setCell _ _ _ _) hne
    cases r with
    | p => exact ⟨h.rp, h.pc.set3 k⟩
    | _ => exact hk (by nofun)
/-- The values have turned. -/
theorem MA.asgSet (h : MA w ρ L m) {V : List Int} (ho : Only L.aq w w') (ha : Asg w' 0 (.pointer (some ⟨L.ap, 0, none⟩)) L.ap L.aq V) : MA w' ρ L { m with vs := V } where
  lt := h.lt' ho.size
  hi := h.hi
  at' := fun r => by
    have hr := (h.at' .a).2.1
    have hk : r ≠ .a → At ρ w' L m r := fun hne => h.rest hr ho hne
    cases r with
    | a => exact ⟨(h.at' .a).1, hr, ha⟩
    | _ => exact hk (by nofun)
/-- A variable's cell has turned. -/
theorem MA.vrow (h : MA w ρ L m) {L' : Lay} {m' : Mc} {v k : Nat} (hv : v ≤ m.n) (hk : k < 5) (hn : m'.n = m.n) (h1 : L'.vb = L.vb) (h2 : L'.vc = L.vc) (hc : ∀ x y, y < 5 → ¬(x = v ∧ y = k) → vcell L' m' x y = vcell L m x y) : At ρ (w.setCell ⟨L.vb, v * 5 + k, none⟩ (vcell L' m' v k)) L' m' .v := by
  refine ⟨by rw [h1]; exact h.rv, ?_⟩
  have := own_setAt (h.at' .v).2 (v * 5 + k) (vcell L' m' v k) (by rw [vcells_len]; omega)
  rw [vcells_set hk hn hc] at this
  rw [h1, h2, hn]
  exact this
theorem MA.setLv (h : MA w ρ L m) {v : Nat} (hv : v ≤ m.n) (x : Nat) : MA (w.setCell ⟨L.vb, v * 5, none⟩ (.int .i64 (x : Int))) ρ L { m with lv := upd m.lv v x } where
  lt := h.lt' (Only.setCell _ _ _ _).size
  hi := fun y hy => by
    obtain ⟨a, b, c, d, e⟩ := h.hi y hy
    exact ⟨a, b, c, (upd_ne _ _ (by have : m.n < y := hy; omega)).trans d, e⟩
  at' := fun r => by
    have hk : r ≠ .v → At ρ (w.setCell ⟨L.vb, v * 5, none⟩ (.int .i64 (x : Int))) L m r := fun hne => h.rest h.rv (Only.setCell _ _ _ _) hne
    cases r with
    | v =>
      have := h.vrow (L' := L) (m' := { m with lv := upd m.lv v x }) hv (k := 0) (by omega) rfl rfl rfl (fun a b hb hne => by
        match b with
        | 0 => show Value.int .i64 ((upd m.lv v x a : Nat) : Int) = _; rw [upd_ne _ _ (fun e => hne ⟨e, rfl⟩)]; rfl
        | 1 => rfl
        | 2 => rfl
        | 3 => rfl
        | 4 => rfl
        | b + 5 => omega)
      rw [show vcell L { m with lv := upd m.lv v x } v 0 = .int .i64 (x : Int) by show Value.int .i64 ((upd m.lv v x v : Nat) : Int) = _; rw [upd_same]] at this
      exact this
    | _ => exact hk (by nofun)
theorem MA.setRs (h : MA w ρ L m) {v : Nat} (hv : v ≤ m.n) (x : Option Nat) : MA (w.setCell ⟨L.vb, v * 5 + 1, none⟩ (ptrO L x)) ρ L { m with rs := upd m.rs v x } where
  lt := h.lt' (Only.setCell _ _ _ _).size
  hi := fun y hy => by
    obtain ⟨a, b, c, d, e⟩ := h.hi y hy
    exact ⟨a, b, c, d, (upd_ne _ _ (by have : m.n < y := hy; omega)).trans e⟩
  at' := fun r => by
    have hk : r ≠ .v → At ρ (w.setCell ⟨L.vb, v * 5 + 1, none⟩ (ptrO L x)) L m r := fun hne => h.rest h.rv (Only.setCell _ _ _ _) hne
    cases r with
    | v =>
      have := h.vrow (L' := L) (m' := { m with rs := upd m.rs v x }) hv (k := 1) (by omega) rfl rfl rfl (fun a b hb hne => by
        match b with
        | 1 => show ptrO L (upd m.rs v x a) = _; rw [upd_ne _ _ (fun e => hne ⟨e, rfl⟩)]; rfl
        | 0 => rfl
        | 2 => rfl
        | 3 => rfl
        | 4 => rfl
        | b + 5 => omega)
      rw [show vcell L { m with rs := upd m.rs v x } v 1 = ptrO L x by show ptrO L (upd m.rs v x v) = _; rw [upd_same]] at this
      exact this
    | _ => exact hk (by nofun)

/-! ### A row has grown, or turned -/
def rput (ρ : Nat → Option Rl) (v : Value) (r : Rl) : Nat → Option Rl := fun b => if v.ownBlock = some b then some r else ρ b
/-- One row has turned, perhaps into a new block: the rest is as it was. -/
structure Part (w : World) (ρ : Nat → Option Rl) (L : Lay) (m : Mc) (r0 : Rl) : Prop where
  lt : ∀ b r, ρ b = some r → b < w.heap.size
  hi : ∀ v, m.n < v → L.wv (2 * v) = nilS ∧ L.wv (2 * v + 1) = nilS ∧ L.lw v = nilS ∧ m.lv v = 0 ∧ m.rs v = none
  at' : ∀ r, r ≠ r0 → At ρ w L m r
theorem MA.part (h : MA w ρ L m) (r0 : Rl) : Part w ρ L m r0 := ⟨h.lt, h.hi, fun r _ => h.at' r⟩
theorem MA.app (h : MA w ρ L m) {r0 : Rl} {v v' : Value} (hap : App 0 w w' v v') (hv : ∀ k, v.ownBlock = some k → ρ k = some r0) (hlt : ∀ k, v'.ownBlock = some k → k < w'.heap.size) :
    Part w' (rput ρ v' r0) L m r0 ∧ Chr ρ w (rput ρ v' r0) w' := by
  have hold : ∀ b r, ρ b = some r → r ≠ r0 → v'.ownBlock ≠ some b := fun b r hb hne e => by
    rcases hap.blk with e1 | ⟨g, e1, hg⟩
    · rw [e1] at e
      have := hv b e
      rw [hb] at this
      injection this with this
      exact hne this
    · rw [e1] at e
      injection e with e
      have := h.lt b r hb
      omega
  refine ⟨⟨fun b r hb => ?_, h.hi, fun r hne => ?_⟩, ⟨hap.below.os, hap.below.tape, hap.below.output, hap.below.size, fun i hi hn => hap.other i hi (fun e => by rw [hv i e.symm] at hn; cases hn), fun i hi hn => ?_⟩⟩
  · unfold rput at hb
    split at hb
    · rename_i e; exact hlt b e
    · exact Nat.lt_of_lt_of_le (h.lt b r hb) hap.below.size
  · refine (h.at' r).keep (fun b hb => h.lt b r hb) hap.below.size fun b hb => ⟨?_, hap.other b (h.lt b r hb) (fun e => ?_)⟩
    · unfold rput
      rw [if_neg (hold b r hb hne)]; exact hb
    · have := hv b e.symm
      rw [hb] at this
      injection this with this
      exact hne this
  · unfold rput
    rw [if_neg (fun e => ?_)]
    · exact hn
    · rcases hap.blk with e1 | ⟨g, e1, hg⟩
      · rw [e1] at e
        rw [hv i e] at hn; cases hn
      · rw [e1] at e
        injection e with e
        omega
theorem Part.rest {r0 r1 : Rl} {b : Nat} (h : Part w ρ L m r0) (hr : ρ b = some r1) (ho : Only b w w') {r : Rl} (h0 : r ≠ r0) (h1 : r ≠ r1) : At ρ w' L m r :=
  (h.at' r h0).keep (fun b hb => h.lt b r hb) ho.size fun b' hb' => ⟨hb', ho.block b' (h.lt b' r hb') (fun e => by injection e with e; subst e; rw [hr] at hb'; injection hb' with hb'; exact h1 hb'.symm)⟩
theorem rput_row {e : TypeId} {v : Value} {n : Nat} {xs : List Value} {r0 : Rl} (ho : w.ownsRow 0 e 1 v n xs) : RolA (rput ρ v r0) w r0 e v xs :=
  ⟨by have := ho.1; rw [show xs.length = n by omega]; exact ho, fun k hk => by unfold rput; rw [if_pos hk]⟩
theorem own_out {e : TypeId} {v : Value} {n b : Nat} {xs : List Value} (ho : w.ownsRow 0 e 1 v n xs) (hne : v.ownBlock ≠ some b) (o : Nat) (u : Value) : (w.setCell ⟨b, o, none⟩ u).ownsRow 0 e 1 v n xs := own_other ho (Only.setCell _ _ _ _) hne
theorem own_out5 {e : TypeId} {g n c b : Nat} {xs : List Value} (ho : w.ownsRow 0 e 5 (.slice (some ⟨g, 0, none⟩) n c) n xs) (hne : b ≠ g) (o : Nat) (u : Value) : (w.setCell ⟨b, o, none⟩ u).ownsRow 0 e 5 (.slice (some ⟨g, 0, none⟩) n c) n xs := own_other ho (Only.setCell _ _ _ _) (fun e => hne (by simpa [Value.ownBlock] using e.symm))
theorem rol_out {r r1 : Rl} {e : TypeId} {v : Value} {b : Nat} {xs : List Value} (h : RolA ρ w r e v xs) (hb : ρ b = some r1) (hne : r ≠ r1) (o : Nat) (u : Value) : RolA ρ (w.setCell ⟨b, o, none⟩ u) r e v xs :=
  ⟨own_out h.1 (fun e => by rw [h.2 b e] at hb; injection hb with hb; exact hne hb) o u, h.2⟩

theorem Part.rp {r0 : Rl} (h : Part w ρ L m r0) (hne : Rl.p ≠ r0) : ρ L.p = some .p := (h.at' .p hne).1
theorem Part.rv {r0 : Rl} (h : Part w ρ L m r0) (hne : Rl.v ≠ r0) : ρ L.vb = some .v := (h.at' .v hne).1
/-- The trail's row has turned, and its cell is stored. -/
theorem Part.setTr (h : Part w ρ L m .tr) {v : Value} {xs : List Int} (hr : RolA ρ w .tr 3 v (xs.map (Value.int .i64))) : MA (w.setCell ⟨L.p, 2, none⟩ v) ρ { L with trv := v } { m with tr := xs } where
  lt := fun b r hb => Nat.lt_of_lt_of_le (h.lt b r hb) (Only.setCell _ _ _ _).size
  hi := h.hi
  at' := fun r => by
    have hp := h.rp (by nofun)
    have hk : r ≠ .tr → r ≠ .p → At ρ (w.setCell ⟨L.p, 2, none⟩ v) L m r := fun h0 h1 => h.rest hp (Only.setCell _ _ _ _) h0 h1
    cases r with
    | p => exact ⟨hp, (h.at' .p (by nofun)).2.set2 v⟩
    | tr => exact rol_out hr hp (by nofun) _ _
    | _ => exact hk (by nofun) (by nofun)
theorem Part.setSt (h : Part w ρ L m .st) {v : Value} {xs : List Nat} (hr : RolA ρ w .st 3 v (xs.map fun (s : Nat) => Value.int .i64 (s : Int))) : MA (w.setCell ⟨L.p, 4, none⟩ v) ρ { L with stv := v } { m with st := xs } where
  lt := fun b r hb => Nat.lt_of_lt_of_le (h.lt b r hb) (Only.setCell _ _ _ _).size
  hi := h.hi
  at' := fun r => by
    have hp := h.rp (by nofun)
    have hk : r ≠ .st → r ≠ .p → At ρ (w.setCell ⟨L.p, 4, none⟩ v) L m r := fun h0 h1 => h.rest hp (Only.setCell _ _ _ _) h0 h1
    cases r with
    | p => exact ⟨hp, (h.at' .p (by nofun)).2.set4 v⟩
    | st => exact rol_out hr hp (by nofun) _ _
    | _ => exact hk (by nofun) (by nofun)
theorem Part.setTd (h : Part w ρ L m .td) {v : Value} {xs : List Nat} (hr : RolA ρ w .td 73 v (xs.map (ptrC L))) : MA (w.setCell ⟨L.p, 7, none⟩ v) ρ { L with tdv := v } { m with td := xs } where
  lt := fun b r hb => Nat.lt_of_lt_of_le (h.lt b r hb) (Only.setCell _ _ _ _).size
  hi := h.hi
  at' := fun r => by
    have hp := h.rp (by nofun)
    have hk : r ≠ .td → r ≠ .p → At ρ (w.setCell ⟨L.p, 7, none⟩ v) L m r := fun h0 h1 => h.rest hp (Only.setCell _ _ _ _) h0 h1
    cases r with
    | p => exact ⟨hp, (h.at' .p (by nofun)).2.set7 v⟩
    | td => exact rol_out hr hp (by nofun) _ _
    | _ => exact hk (by nofun) (by nofun)
theorem Part.vrow {r0 : Rl} (h : Part w ρ L m r0) (hr0 : Rl.v ≠ r0) {L' : Lay} {m' : Mc} {v k : Nat} (hv : v ≤ m.n) (hk : k < 5) (hn : m'.n = m.n) (h1 : L'.vb = L.vb) (h2 : L'.vc = L.vc) (hc : ∀ x y, y < 5 → ¬(x = v ∧ y = k) → vcell L' m' x y = vcell L m x y) : At ρ (w.setCell ⟨L.vb, v * 5 + k, none⟩ (vcell L' m' v k)) L' m' .v := by
  refine ⟨by rw [h1]; exact h.rv hr0, ?_⟩
  have := own_setAt (h.at' .v hr0).2 (v * 5 + k) (vcell L' m' v k) (by rw [vcells_len]; omega)
  rw [vcells_set hk hn hc] at this
  rw [h1, h2, hn]
  exact this
/-- A row of those that watch has turned, and its cell is stored. -/
theorem Part.setW {j : Nat} (h : Part w ρ L m (.w j)) (hj : j / 2 ≤ m.n) {v : Value} {xs : List Nat} (hr : RolA ρ w (.w j) 73 v (xs.map (ptrC L))) : MA (w.setCell ⟨L.vb, j / 2 * 5 + (2 + j % 2), none⟩ v) ρ { L with wv := upd L.wv j v } { m with wt := upd m.wt j xs } where
  lt := fun b r hb => Nat.lt_of_lt_of_le (h.lt b r hb) (Only.setCell _ _ _ _).size
  hi := fun y hy => by
    have hy' : m.n < y := hy
    obtain ⟨a, b, c, d, e⟩ := h.hi y hy
    exact ⟨(upd_ne _ _ (by omega)).trans a, (upd_ne _ _ (by omega)).trans b, c, d, e⟩
  at' := fun r => by
    have hp := h.rv (by nofun)
    have hk : r ≠ (.w j) → r ≠ .v → At ρ (w.setCell ⟨L.vb, j / 2 * 5 + (2 + j % 2), none⟩ v) L m r := fun h0 h1 => h.rest hp (Only.setCell _ _ _ _) h0 h1
    cases r with
    | p =>
      obtain ⟨a, b⟩ := hk (by nofun) (by nofun)
      exact ⟨a, ⟨b.c0, b.c1, b.c2, b.c3, b.c4, b.c5, b.c6, b.c7, b.fr⟩⟩
    | v =>
      have := h.vrow (L' := { L with wv := upd L.wv j v }) (m' := { m with wt := upd m.wt j xs }) (by nofun) hj (k := 2 + j % 2) (by omega) rfl rfl rfl (fun a b hb hne => by
        match b with
        | 0 => rfl
        | 1 => rfl
        | 2 => show upd L.wv j v (2 * a) = _; rw [upd_ne _ _ (fun e => hne (by omega))]; rfl
        | 3 => show upd L.wv j v (2 * a + 1) = _; rw [upd_ne _ _ (fun e => hne (by omega))]; rfl
        | 4 => rfl
        | b + 5 => omega)
      rw [show vcell { L with wv := upd L.wv j v } { m with wt := upd m.wt j xs } (j / 2) (2 + j % 2) = v by
        rcases (show j % 2 = 0 ∨ j % 2 = 1 by omega) with e | e
        · rw [e]; show upd L.wv j v (2 * (j / 2)) = v; rw [show 2 * (j / 2) = j by omega, upd_same]
        · rw [e]; show upd L.wv j v (2 * (j / 2) + 1) = v; rw [show 2 * (j / 2) + 1 = j by omega, upd_same]] at this
      exact this
    | w i =>
      by_cases e : i = j
      · subst e
        have := rol_out hr hp (by nofun) (i / 2 * 5 + (2 + i % 2)) v
        show RolA ρ _ (.w i) _ (upd L.wv i v i) ((upd m.wt i xs i).map _)
        rw [upd_same, upd_same]
        exact this
      · have := h.rest hp (Only.setCell w L.vb (j / 2 * 5 + (2 + j % 2)) v) (r := .w i) (fun e' => e (by injection e')) (by nofun)
        show RolA ρ _ (.w i) _ (upd L.wv j v i) ((upd m.wt j xs i).map _)
        rw [upd_ne _ _ e, upd_ne _ _ e]
        exact this
    | _ => exact hk (by nofun) (by nofun)
/-- A row of those that are late has turned, and its cell is stored. -/
theorem Part.setL {j : Nat} (h : Part w ρ L m (.l j)) (hj : j ≤ m.n) {v : Value} {xs : List Nat} (hr : RolA ρ w (.l j) 73 v (xs.map (ptrC L))) : MA (w.setCell ⟨L.vb, j * 5 + 4, none⟩ v) ρ { L with lw := upd L.lw j v } { m with lt := upd m.lt j xs } where
  lt := fun b r hb => Nat.lt_of_lt_of_le (h.lt b r hb) (Only.setCell _ _ _ _).size
  hi := fun y hy => by
    have hy' : m.n < y := hy
    obtain ⟨a, b, c, d, e⟩ := h.hi y hy
    exact ⟨a, b, (upd_ne _ _ (by omega)).trans c, d, e⟩
  at' := fun r => by
    have hp := h.rv (by nofun)
    have hk : r ≠ (.l j) → r ≠ .v → At ρ (w.setCell ⟨L.vb, j * 5 + 4, none⟩ v) L m r := fun h0 h1 => h.rest hp (Only.setCell _ _ _ _) h0 h1
    cases r with
    | p =>
      obtain ⟨a, b⟩ := hk (by nofun) (by nofun)
      exact ⟨a, ⟨b.c0, b.c1, b.c2, b.c3, b.c4, b.c5, b.c6, b.c7, b.fr⟩⟩
    | v =>
      have := h.vrow (L' := { L with lw := upd L.lw j v }) (m' := { m with lt := upd m.lt j xs }) (by nofun) hj (k := 4) (by omega) rfl rfl rfl (fun a b hb hne => by
        match b with
        | 0 => rfl
        | 1 => rfl
        | 2 => rfl
        | 3 => rfl
        | 4 => show upd L.lw j v a = _; rw [upd_ne _ _ (fun e => hne (by omega))]; rfl
        | b + 5 => omega)
      rw [show vcell { L with lw := upd L.lw j v } { m with lt := upd m.lt j xs } j 4 = v by show upd L.lw j v j = v; rw [upd_same]] at this
      exact this
    | l i =>
      by_cases e : i = j
      · subst e
        show RolA ρ _ (.l i) _ (upd L.lw i v i) ((upd m.lt i xs i).map _)
        rw [upd_same, upd_same]
        exact rol_out hr hp (by nofun) _ _
      · have := h.rest hp (Only.setCell w L.vb (j * 5 + 4) v) (r := .l i) (fun e' => e (by injection e')) (by nofun)
        show RolA ρ _ (.l i) _ (upd L.lw j v i) ((upd m.lt j xs i).map _)
        rw [upd_ne _ _ e, upd_ne _ _ e]
        exact this
    | _ => exact hk (by nofun) (by nofun)

/-! ### An append, and the store behind it -/
theorem MA.trApp (h : MA w ρ L m) {v' : Value} {n : Nat} {xs : List Int} (hap : App 0 w w' L.trv v') (ho : w'.ownsRow 0 3 1 v' n (xs.map (Value.int .i64))) :
    ∃ ρ', MA (w'.setCell ⟨L.p, 2, none⟩ v') ρ' { L with trv := v' } { m with tr := xs } ∧ Chr ρ w ρ' (w'.setCell ⟨L.p, 2, none⟩ v') ∧ w'.cell? ⟨L.p, 2, none⟩ = some L.trv ∧ w'.frozen? ⟨L.p, 2, none⟩ = false := by
  obtain ⟨hP, hC⟩ := h.app hap (h.at' .tr).2 (fun k hk => (ho.lt k hk).2)
  have hp := hP.at' .p (by nofun)
  exact ⟨_, hP.setTr (rput_row ho), hC.setCell hp.1 _, hp.2.c2, hp.2.fr 2⟩
theorem MA.stApp (h : MA w ρ L m) {v' : Value} {n : Nat} {xs : List Nat} (hap : App 0 w w' L.stv v') (ho : w'.ownsRow 0 3 1 v' n (xs.map fun (s : Nat) => Value.int .i64 (s : Int))) :
    ∃ ρ', MA (w'.setCell ⟨L.p, 4, none⟩ v') ρ' { L with stv := v' } { m with st := xs } ∧ Chr ρ w ρ' (w'.setCell ⟨L.p, 4, none⟩ v') ∧ w'.cell? ⟨L.p, 4, none⟩ = some L.stv ∧ w'.frozen? ⟨L.p, 4, none⟩ = false := by
  obtain ⟨hP, hC⟩ := h.app hap (h.at' .st).2 (fun k hk => (ho.lt k hk).2)
  have hp := hP.at' .p (by nofun)
  exact ⟨_, hP.setSt (rput_row ho), hC.setCell hp.1 _, hp.2.c4, hp.2.fr 4⟩
theorem MA.tdApp (h : MA w ρ L m) {v' : Value} {n : Nat} {xs : List Nat} (hap : App 0 w w' L.tdv v') (ho : w'.ownsRow 0 73 1 v' n (xs.map (ptrC L))) :
    ∃ ρ', MA (w'.setCell ⟨L.p, 7, none⟩ v') ρ' { L with tdv := v' } { m with td := xs } ∧ Chr ρ w ρ' (w'.setCell ⟨L.p, 7, none⟩ v') ∧ w'.cell? ⟨L.p, 7, none⟩ = some L.tdv ∧ w'.frozen? ⟨L.p, 7, none⟩ = false := by
  obtain ⟨hP, hC⟩ := h.app hap (h.at' .td).2 (fun k hk => (ho.lt k hk).2)
  have hp := hP.at' .p (by nofun)
  exact ⟨_, hP.setTd (rput_row ho), hC.setCell hp.1 _, hp.2.c7, hp.2.fr 7⟩
theorem MA.wApp (h : MA w ρ L m) {j : Nat} (hj : j / 2 ≤ m.n) {v' : Value} {n : Nat} {xs : List Nat} (hap : App 0 w w' (L.wv j) v') (ho : w'.ownsRow 0 73 1 v' n (xs.map (ptrC L))) :
    ∃ ρ', MA (w'.setCell ⟨L.vb, j / 2 * 5 + (2 + j % 2), none⟩ v') ρ' { L with wv := upd L.wv j v' } { m with wt := upd m.wt j xs } ∧ Chr ρ w ρ' (w'.setCell ⟨L.vb, j / 2 * 5 + (2 + j % 2), none⟩ v') ∧ w'.cell? ⟨L.vb, j / 2 * 5 + (2 + j % 2), none⟩ = some (L.wv j) ∧ w'.frozen? ⟨L.vb, j / 2 * 5 + (2 + j % 2), none⟩ = false := by
  obtain ⟨hP, hC⟩ := h.app hap (h.at' (.w j)).2 (fun k hk => (ho.lt k hk).2)
  have hp := hP.at' .v (by nofun)
  refine ⟨_, hP.setW hj (rput_row ho), hC.setCell hp.1 _, ?_, own_frozen hp.2 _⟩
  have := own_cell hp.2 (vcells_get L m (v := j / 2) (k := 2 + j % 2) hj (by omega))
  rw [this]
  rcases (show j % 2 = 0 ∨ j % 2 = 1 by omega) with e | e
  · rw [e]; show some (L.wv (2 * (j / 2))) = _; rw [show 2 * (j / 2) = j by omega]
  · rw [e]; show some (L.wv (2 * (j / 2) + 1)) = _; rw [show 2 * (j / 2) + 1 = j by omega]
theorem MA.lApp (h : MA w ρ L m) {j : Nat} (hj : j ≤ m.n) {v' : Value} {n : Nat} {xs : List Nat} (hap : App 0 w w' (L.lw j) v') (ho : w'.ownsRow 0 73 1 v' n (xs.map (ptrC L))) :
    ∃ ρ', MA (w'.setCell ⟨L.vb, j * 5 + 4, none⟩ v') ρ' { L with lw := upd L.lw j v' } { m with lt := upd m.lt j xs } ∧ Chr ρ w ρ' (w'.setCell ⟨L.vb, j * 5 + 4, none⟩ v') ∧ w'.cell? ⟨L.vb, j * 5 + 4, none⟩ = some (L.lw j) ∧ w'.frozen? ⟨L.vb, j * 5 + 4, none⟩ = false := by
  obtain ⟨hP, hC⟩ := h.app hap (h.at' (.l j)).2 (fun k hk => (ho.lt k hk).2)
  have hp := hP.at' .v (by nofun)
  exact ⟨_, hP.setL hj (rput_row ho), hC.setCell hp.1 _, own_cell hp.2 (vcells_get L m (v := j) (k := 4) hj (by omega)), own_frozen hp.2 _⟩
theorem App.refl (v : Value) : App 0 w w v v := ⟨Below.refl _ _, fun _ _ _ => rfl, .inl rfl⟩
end
end Go.Proofs.Ytmlgpnaikdpifaa

namespace Go.Proofs.Ytmlgpnaikdpifaa
open Go.RowKit

theorem infoPc : (Try.prog.info? 73).map (fun i => (i.zero, i.size, i.bytes)) = some (some (.pointer none), 1, 8) := by kernel_rfl
section
variable {w : World} {ρ : Nat → Option Rl} {L : Lay} {m : Mc}

theorem ptrO_shape (L : Lay) (r : Option Nat) : ∃ a, ptrO L r = .pointer a := by
  cases r with
  | none => exact ⟨_, rfl⟩
  | some i => exact ⟨_, rfl⟩

set_option maxRecDepth 8000 in
set_option maxHeartbeats 2000000 in
theorem mset_any (h : MA w ρ L m) (l : Int) (r : Option Nat) (hl : plc l ≤ m.n) (hn : m.n ≤ 4000) (ht : m.tr.length ≤ 4000) (hs : m.st.length ≤ 4000) :
    Calls Try.prog 52 #[ptrP L, .int .i64 l, ptrO L r] w fun e w' => e = .returned (.tuple #[]) ∧ ∃ ρ', Chr ρ w ρ' w' ∧ ∃ v, MA w' ρ' { L with trv := v } (setM m l r) := by
  have e := plc_abs l
  have hb : -4000 ≤ l ∧ l ≤ 4000 := by unfold absI at e; split at e <;> omega
  have HS := Lib.hid (set_any h.asg l (by omega) (by omega))
  have HA := Lib.hid h
  have c0 := h.pc.c0
  clear h e
  unfold ptrP
  obtain ⟨pr, hpr⟩ := ptrO_shape L r
  have HPR := Lib.hid hpr
  rw [hpr]
  clear hpr
  go_enter Try.func52, Try.ntmps52
  go_wp2_with fail
  refine HS.out.mono ?_
  rintro e w1 ⟨rfl, ha, ho⟩
  have HM1 := Lib.hid (HA.out.asgSet ho ha)
  have HC1 := Lib.hid (Chr.of_only (HA.out.at' .a).2.1 ho)
  have HO := Lib.hid (mof_any HM1.out l hl hn)
  clear HS c0 ha ho
  go_wp2_with fail
  refine HO.out.mono ?_
  rintro e w2 ⟨rfl, t, rfl⟩
  have HM2 := Lib.hid (HM1.out.drewN t)
  have HL := Lib.hid (mlvl_any HM2.out)
  have g0 := HM2.out.var (v := plc l) (k := 0) hl (by omega)
  rw [Nat.add_zero] at g0
  have g1 := HM2.out.var (v := plc l) (k := 1) hl (by omega)
  have f0 := HM2.out.varF (plc l * 5)
  have f1 := HM2.out.varF (plc l * 5 + 1)
  have hlt := HM2.out.lt _ _ HM2.out.rv
  clear HO
  go_wp2_with fail
  refine HL.out.mono ?_
  rintro e w3 ⟨rfl, rfl⟩
  have HM3 := Lib.hid ((HM2.out.setLv hl m.st.length).setRs hl r)
  rw [HPR.out] at HM3
  have c2 := HM3.out.pc.c2
  have htr := (HM3.out.at' .tr).1
  rw [List.length_map] at htr
  have HTR := Lib.hid htr
  clear htr HL hlt
  go_wp2_with (at_builtin; refine wpList_appV 22 3 (.int .i64 0) 8 Try.underlying22 infoInt rfl (by decide) rfl _ _ rfl _ 0 L.trv _ _ (.int .i64 l) rfl HTR.out (Nat.zero_le _) (by show m.tr.length < _; omega) _ (by simp) rfl rfl ?_; intro v5 w5 hown5 hap5; obtain ⟨a5, k5, rfl, _⟩ := own_shape hown5; rw [show m.tr.map (Value.int .i64) ++ [Value.int .i64 l] = (m.tr ++ [l]).map (Value.int .i64) by simp] at hown5; obtain ⟨ρ5, hM5, hC5, c2, f2⟩ := HM3.out.trApp hap5 hown5; have HM5 := Lib.hid hM5; have HC5 := Lib.hid hC5; clear hM5 hC5 hown5 hap5)
  (try simp only [Exit.inBlock, Exit.then])
  refine bodyPost_end (results_none rfl _ _ _) rfl ?_
  exact ⟨rfl, ρ5, (((HC1.out.drewN t).setCell HM2.out.rv _).setCell HM2.out.rv _).trans HC5.out, _, HM5.out⟩

/-! ### One more that watches -/
theorem wx_cell (l : Int) : wx l / 2 * 5 + (2 + wx l % 2) = plc l * 5 + (if l < 0 then 3 else 2) := by
  unfold wx; split <;> omega
/-- i is told when l is false. -/
def wat (m : Mc) (i : Nat) (l : Int) : Mc := { m with wt := upd m.wt (wx l) (m.wt (wx l) ++ [i]) }
theorem MA.cells (h : MA w ρ L m) {i : Nat} {c : List Int} (hc : m.cl i = some c) : w.cell? ⟨L.cb i, 0, none⟩ = some (.int .i64 (i : Int)) ∧ w.cell? ⟨L.cb i, 1, none⟩ = some (L.cv i) := by
  have := (h.at' (.c i) c hc).2
  exact ⟨by rw [cell_of_row _ _ 0 _ _ _ this]; rfl, by rw [cell_of_row _ _ 1 _ _ _ this]; rfl⟩
theorem MA.lit (h : MA w ρ L m) {i : Nat} {c : List Int} (hc : m.cl i = some c) : w.ownsRow 0 3 1 (L.cv i) c.length (c.map (Value.int .i64)) := by have := (h.at' (.d i) c hc).1; rwa [List.length_map] at this
theorem MA.lits (h : MA w ρ L m) {i : Nat} {c : List Int} (hc : m.cl i = some c) (h0 : 0 < c.length) : ∃ g k, L.cv i = .slice (some ⟨g, 0, none⟩) c.length k ∧ ρ g = some (.d i) ∧ (∀ j l, c[j]? = some l → w.cell? ⟨g, j, none⟩ = some (.int .i64 l)) ∧ (∀ j, w.frozen? ⟨g, j, none⟩ = false) ∧ c.length ≤ k ∧ k ≤ maxLen := by
  have ho := h.lit hc
  obtain ⟨g, k, e⟩ := own_at ho h0
  have hr := (h.at' (.d i) c hc).2
  rw [e] at ho hr ⊢
  refine ⟨g, k, rfl, hr g rfl, fun j l hj => own_cell ho (by rw [List.getElem?_map, hj]; rfl), fun j => own_frozen ho j, own_cap ho⟩

set_option maxRecDepth 8000 in
set_option maxHeartbeats 2000000 in
theorem mwatch_any (h : MA w ρ L m) (i : Nat) (c : List Int) (k : Nat) (l : Int) (hc : m.cl i = some c) (hk : c[k]? = some l) (hl : plc l ≤ m.n) (hn : m.n ≤ 4000) (hw : (m.wt (wx l)).length ≤ 1000000000) :
    Calls Try.prog 85 #[ptrP L, ptrC L i, .int .i64 (k : Int)] w fun e w' => e = .returned (.tuple #[]) ∧ ∃ ρ', Chr ρ w ρ' w' ∧ ∃ v, MA w' ρ' { L with wv := upd L.wv (wx l) v } (wat m i l) := by
  have hkl : k < c.length := by
    rcases Nat.lt_or_ge k c.length with h' | h'
    · exact h'
    · rw [List.getElem?_eq_none h'] at hk; cases hk
  obtain ⟨g, kc, e, _, hcell, _, hcap, hmax⟩ := h.lits hc (by omega)
  have c1 := (h.cells hc).2
  rw [e] at c1
  have c2 := hcell k l hk
  have HW := Lib.hid (mwat_any h l hl hn)
  have HA := Lib.hid h
  have hcl : c.length ≤ maxLen := Nat.le_trans hcap hmax
  unfold maxLen at hcl
  clear h e hcell hcap hmax
  unfold ptrP
  have HPC : Hid (ptrC L i = .pointer (some ⟨L.cb i, 0, none⟩)) := rfl
  rw [HPC.out]
  go_enter Try.func85, Try.ntmps85
  go_wp2_with fail
  refine HW.out.mono ?_
  rintro e w1 ⟨rfl, t, rfl⟩
  rw [← wx_cell]
  have HM1 := Lib.hid (HA.out.drewN t)
  have hwr := (HM1.out.at' (.w (wx l))).1
  rw [List.length_map] at hwr
  have HWR := Lib.hid hwr
  clear hwr
  have hj : wx l / 2 ≤ m.n := by rw [wx_half]; exact hl
  have c3 : (w.drewN t).cell? ⟨L.vb, wx l / 2 * 5 + (2 + wx l % 2), none⟩ = some (L.wv (wx l)) := by
    obtain ⟨_, _, _, h3, _⟩ := HM1.out.wApp hj (App.refl _) HWR.out
    exact h3
  have HJ := Lib.hid hj
  clear c1 c2 hj
  generalize hX : wx l / 2 * 5 + (2 + wx l % 2) = X at *
  have HX := Lib.hid hX
  clear hX
  go_wp2_with (at_builtin; refine wpList_appV 69 73 (.pointer none) 8 Try.underlying69 infoPc rfl (by decide) rfl _ _ rfl _ 0 (L.wv (wx l)) _ _ (.pointer (some ⟨L.cb i, 0, none⟩)) rfl HWR.out (Nat.zero_le _) (by omega) _ (by simp) rfl rfl ?_; intro v5 w5 hown5 hap5; obtain ⟨a5, k5, rfl, _⟩ := own_shape hown5; rw [show (m.wt (wx l)).map (ptrC L) ++ [.pointer (some ⟨L.cb i, 0, none⟩)] = (m.wt (wx l) ++ [i]).map (ptrC L) by simp [ptrC]] at hown5; obtain ⟨ρ5, hM5, hC5, c2, f2⟩ := HM1.out.wApp HJ.out hap5 hown5; rw [HX.out] at hM5 hC5 c2 f2; have HM5 := Lib.hid hM5; have HC5 := Lib.hid hC5; clear hM5 hC5 hown5 hap5)
  (try simp only [Exit.inBlock, Exit.then])
  refine bodyPost_end (results_none rfl _ _ _) rfl ?_
  exact ⟨rfl, ρ5, ((Chr.refl _ _).drewN t).trans HC5.out, _, HM5.out⟩

end
end Go.Proofs.Ytmlgpnaikdpifaa

namespace Go.Proofs.Ytmlgpnaikdpifaa
open Go.RowKit

/-- Two literals change places. -/
def swapL (c : List Int) (a b : Nat) : List Int := (c.set a (c.getD b 0)).set b (c.getD a 0)
def putCl (m : Mc) (i : Nat) (c : List Int) : Mc := { m with cl := upd m.cl i (some c) }
theorem putCl_twice (m : Mc) (i : Nat) (c d : List Int) : putCl (putCl m i c) i d = putCl m i d := by
  unfold putCl
  have : upd (upd m.cl i (some c)) i (some d) = upd m.cl i (some d) := by funext j; unfold upd; split <;> rfl
  rw [this]
section
variable {w : World} {ρ : Nat → Option Rl} {L : Lay} {m : Mc}
theorem MA.litSet (h : MA w ρ L m) {i : Nat} {c : List Int} (hc : m.cl i = some c) {g k : Nat} (e : L.cv i = .slice (some ⟨g, 0, none⟩) c.length k) (a : Nat) (x : Int) (ha : a < c.length) :
    MA (w.setCell ⟨g, a, none⟩ (.int .i64 x)) ρ L (putCl m i (c.set a x)) where
  lt := h.lt' (Only.setCell _ _ _ _).size
  hi := h.hi
  at' := fun r => by
    have hg : ρ g = some (.d i) := (h.at' (.d i) c hc).2 g (by rw [e]; rfl)
    have hk : r ≠ .d i → At ρ (w.setCell ⟨g, a, none⟩ (.int .i64 x)) L m r := fun hne => h.rest hg (Only.setCell _ _ _ _) hne
    cases r with
    | c j =>
      intro c' hc'
      by_cases ej : j = i
      · subst ej
        exact hk (by nofun) c hc
      · exact hk (by nofun) c' (by rw [← hc']; exact (upd_ne _ _ ej).symm)
    | d j =>
      intro c' hc'
      by_cases ej : j = i
      · subst ej
        have hc2 : some (c.set a x) = some c' := by rw [← hc']; exact (upd_same _ _ _).symm
        injection hc2 with hc2
        subst hc2
        have ho := h.lit hc
        rw [e] at ho
        have := own_setAt ho a (.int .i64 x) (by rw [List.length_map]; exact ha)
        rw [← List.map_set] at this
        refine ⟨?_, (h.at' (.d j) c hc).2⟩
        rw [List.length_map, List.length_set, e]
        exact this
      · exact hk (fun e' => ej (by injection e')) c' (by rw [← hc']; exact (upd_ne _ _ ej).symm)
    | _ => exact hk (by nofun)

set_option maxRecDepth 8000 in
set_option maxHeartbeats 4000000 in
theorem mswap_any (h : MA w ρ L m) (i : Nat) (c : List Int) (a b : Nat) (hc : m.cl i = some c) (ha : a < c.length) (hb : b < c.length) (hab : a ≠ b) :
    Calls Try.prog 81 #[ptrC L i, .int .i64 (a : Int), .int .i64 (b : Int)] w fun e w' => e = .returned (.tuple #[]) ∧ Chr ρ w ρ w' ∧ MA w' ρ L (putCl m i (swapL c a b)) := by
  obtain ⟨g, k, e, hg, hcell, hfr, hcap, hmax⟩ := h.lits hc (by omega)
  have c1 := (h.cells hc).2
  rw [e] at c1
  have ga := hcell a (c.getD a 0) (by simp [List.getD, ha])
  have gb := hcell b (c.getD b 0) (by simp [List.getD, hb])
  have fa := hfr a
  have fb := hfr b
  have hcl : c.length ≤ maxLen := Nat.le_trans hcap hmax
  unfold maxLen at hcl
  have hlg := h.lt _ _ hg
  have hlc := h.lt _ _ (h.at' (.c i) c hc).1
  have hne : L.cb i ≠ g := fun e' => by
    have h1 := (h.at' (.c i) c hc).1
    rw [e', hg] at h1
    cases h1
  have HF : Hid (∀ wr, wr = (w.setCell ⟨g, a, none⟩ (.int .i64 (c.getD b 0))).setCell ⟨g, b, none⟩ (.int .i64 (c.getD a 0)) → Chr ρ w ρ wr ∧ MA wr ρ L (putCl m i (swapL c a b))) := fun wr e' => by
    subst e'
    refine ⟨(Chr.setCell (Chr.refl _ _) hg _).setCell hg _, ?_⟩
    have h1 := h.litSet hc e a (c.getD b 0) ha
    have h2 := h1.litSet (i := i) (c := c.set a (c.getD b 0)) (upd_same _ _ _) (by rw [List.length_set]; exact e) b (c.getD a 0) (by rw [List.length_set]; exact hb)
    rw [putCl_twice] at h2
    exact h2
  have HPC : Hid (ptrC L i = .pointer (some ⟨L.cb i, 0, none⟩)) := rfl
  rw [HPC.out]
  clear h hcell hfr hcap hmax e hg hc
  generalize c.getD a 0 = x at *
  generalize c.getD b 0 = y at *
  generalize L.cb i = cb at *
  go_enter Try.func81, Try.ntmps81
  go_wp2_with fail
  go_region
  go_wp2_with fail
  (try simp only [Exit.inBlock, Exit.then])
  refine bodyPost_end (results_none rfl _ _ _) rfl ?_
  obtain ⟨h1, h2⟩ := HF.out _ rfl
  exact ⟨rfl, h1.trans (Chr.of_below (Below.refl _ _).drew), h2.below (Below.refl _ _).drew⟩

end
end Go.Proofs.Ytmlgpnaikdpifaa

namespace Go.Proofs.Ytmlgpnaikdpifaa
open Go.RowKit

/-- The level of the second literal. -/
def othM (m : Mc) : List Int → Nat
  | [] => 0
  | b :: _ => m.lv (plc b)
/-- The first literal is made true, if it is not known. -/
def onlyA (m : Mc) (i : Nat) (a : Int) : Mc := if valL m.vs a = 0 then setM m a (some i) else m
def onlyM (m : Mc) (i : Nat) (a : Int) (o : Nat) : Mc := if o < (onlyA m i a).lv (plc a) then { onlyA m i a with lt := upd (onlyA m i a).lt (plc a) ((onlyA m i a).lt (plc a) ++ [i]) } else onlyA m i a
section
variable {w : World} {ρ : Nat → Option Rl} {L : Lay} {m : Mc}
theorem onlyA_cl (m : Mc) (i : Nat) (a : Int) : (onlyA m i a).cl = m.cl := by unfold onlyA; split <;> rfl
theorem onlyA_n (m : Mc) (i : Nat) (a : Int) : (onlyA m i a).n = m.n := by unfold onlyA; split <;> rfl
theorem onlyA_lt (m : Mc) (i : Nat) (a : Int) : (onlyA m i a).lt = m.lt := by unfold onlyA; split <;> rfl
theorem onlyA_lv (m : Mc) (i : Nat) (a : Int) {v : Nat} (h : v ≠ plc a) : (onlyA m i a).lv v = m.lv v := by
  unfold onlyA
  split
  · exact upd_ne _ _ h
  · rfl
def OnlyA (w : World) (ρ : Nat → Option Rl) (L : Lay) (m1 : Mc) (W : World) : Prop := ∃ ρ1 tv, Chr ρ w ρ1 W ∧ MA W ρ1 { L with trv := tv } m1

set_option maxRecDepth 8000 in
set_option maxHeartbeats 4000000 in
theorem monly_any (h : MA w ρ L m) (i : Nat) (a : Int) (r : List Int) (hc : m.cl i = some (a :: r)) (hl : ∀ x ∈ a :: r, plc x ≤ m.n) (hne : ∀ x ∈ r, plc x ≠ plc a) (hn : m.n ≤ 4000) (ht : m.tr.length ≤ 4000) (hs : m.st.length ≤ 4000) (hw : (m.lt (plc a)).length ≤ 1000000000) :
    Calls Try.prog 83 #[ptrP L, ptrC L i] w fun e w' => e = .returned (.tuple #[]) ∧ ∃ ρ', Chr ρ w ρ' w' ∧ ∃ tv lv, MA w' ρ' { L with trv := tv, lw := upd L.lw (plc a) lv } (onlyM m i a (othM m r)) := by
  have hla := hl a (by simp)
  have ea := plc_abs a
  have hb : -4000 ≤ a ∧ a ≤ 4000 := by unfold absI at ea; split at ea <;> omega
  obtain ⟨g, k, e, _, hcell, _, hcap, hmax⟩ := h.lits hc (by simp)
  have c1 := (h.cells hc).2
  rw [e] at c1
  have c2 := hcell 0 a rfl
  have hcl : (a :: r).length ≤ maxLen := Nat.le_trans hcap hmax
  unfold maxLen at hcl
  have HCV := Lib.hid e
  have HV := Lib.hid (mval_any h a (by omega) (by omega))
  have HA := Lib.hid h
  have HCI := Lib.hid hc
  have HCA : Hid (∀ m1 : Mc, m1.cl = m.cl → ∀ W ρ1 tv, MA W ρ1 { L with trv := tv } m1 → W.cell? ⟨L.cb i, 1, none⟩ = some (.slice (some ⟨g, 0, none⟩) (a :: r).length k) ∧ (∀ j l, (a :: r)[j]? = some l → W.cell? ⟨g, j, none⟩ = some (.int .i64 l))) := fun m1 e1 W ρ1 tv hM => by
    have hc1 : m1.cl i = some (a :: r) := by rw [e1]; exact hc
    have q1 := (hM.cells hc1).2
    obtain ⟨g', k', e', _, q2, _⟩ := hM.lits hc1 (by simp)
    rw [show ({ L with trv := tv } : Lay).cv i = L.cv i from rfl, e] at e' q1
    injection e' with e1 _ e3
    injection e1 with e1
    injection e1 with e1 _ _
    subst e1
    exact ⟨q1, q2⟩
  clear h e hcell hcap hmax hc ea
  unfold ptrP
  have HPC : Hid (ptrC L i = .pointer (some ⟨L.cb i, 0, none⟩)) := rfl
  rw [HPC.out]
  have HLN : Hid ((a :: r).length = r.length + 1) := rfl
  rw [HLN.out] at c1 hcl
  obtain ⟨bv, hbv⟩ : ∃ b, (valL m.vs a == 0) = b := ⟨_, rfl⟩
  have HBV := Lib.hid hbv
  generalize hX : valL m.vs a = x at *
  have HX := Lib.hid hX
  clear hX
  go_enter Try.func83, Try.ntmps83
  go_wp2_with fail
  refine HV.out.mono ?_
  rintro e w1 ⟨rfl, rfl⟩
  go_upto_if 14 with fail
  go_cut [14] (fun b W => b = .bool bv ∧ OnlyA w ρ L (onlyA m i a) W)
  case first =>
    cases bv with
    | true =>
      have HE : Hid (onlyA m i a = setM m a (some i)) := by
        have hz := HBV.out
        unfold Hid onlyA
        rw [HX.out, if_pos (by simpa using hz)]
      have HS := Lib.hid (mset_any HA.out a (some i) hla hn ht hs)
      rw [show ptrO L (some i) = .pointer (some ⟨L.cb i, 0, none⟩) from rfl] at HS
      go_wp2_with fail
      refine HS.out.mono ?_
      rintro e w1 ⟨rfl, ρ1, hC, tv, hM⟩
      have HR : Hid (OnlyA w ρ L (onlyA m i a) w1) := ⟨ρ1, tv, hC, by rw [HE.out]; exact hM⟩
      clear hC hM
      go_wp2_with fail
      go_meet
      exact ⟨rfl, HR.out⟩
    | false =>
      have HE : Hid (onlyA m i a = m) := by
        have hz := HBV.out
        unfold Hid onlyA
        rw [HX.out, if_neg (by simpa using hz)]
      have HR : Hid (OnlyA w ρ L (onlyA m i a) w) := ⟨ρ, L.trv, Chr.refl _ _, by rw [HE.out]; exact HA.out⟩
      go_wp2_with fail
      go_meet
      exact ⟨rfl, HR.out⟩
  case rest =>
    obtain ⟨rfl, ρ1, tv, hC, hM⟩ := hcut
    obtain ⟨q1, q2⟩ := HCA.out _ (onlyA_cl m i a) wc ρ1 tv hM
    have HM : Hid (∀ t, MA (wc.drewN t) ρ1 { L with trv := tv } (onlyA m i a)) := fun t => hM.drewN t
    have HQ2 := Lib.hid q2
    have hla1 : plc a ≤ (onlyA m i a).n := by rw [onlyA_n]; exact hla
    have hn1 : (onlyA m i a).n ≤ 4000 := by rw [onlyA_n]; exact hn
    have HO := Lib.hid (fun t => mof_any (hM.drewN t) a hla1 hn1)
    have g0 := hM.var (v := plc a) (k := 0) hla1 (by omega)
    rw [Nat.add_zero, show vcell ({ L with trv := tv } : Lay) (onlyA m i a) (plc a) 0 = .int .i64 ((onlyA m i a).lv (plc a) : Int) from rfl] at g0
    have HOT : Hid (∀ b r', r = b :: r' → (∀ t, Calls Try.prog 55 #[.pointer (some ⟨L.p, 0, none⟩), .int .i64 b] (wc.drewN t) fun e w' => e = .returned (.pointer (some ⟨L.vb, plc b * 5, none⟩)) ∧ ∃ t', w' = (wc.drewN t).drewN t') ∧ wc.cell? ⟨L.vb, plc b * 5, none⟩ = some (.int .i64 (othM m r : Int)) ∧ wc.cell? ⟨g, 1, none⟩ = some (.int .i64 b)) := fun b r' er => by
      subst er
      have hbn : plc b ≤ (onlyA m i a).n := by rw [onlyA_n]; exact hl b (by simp)
      refine ⟨fun t => mof_any (hM.drewN t) b hbn hn1, ?_, q2 1 b rfl⟩
      have g1 := hM.var (v := plc b) (k := 0) hbn (by omega)
      rw [Nat.add_zero, show vcell ({ L with trv := tv } : Lay) (onlyA m i a) (plc b) 0 = .int .i64 ((onlyA m i a).lv (plc b) : Int) from rfl, onlyA_lv m i a (hne b (by simp))] at g1
      exact g1
    have d2 := q2 0 a rfl
    rw [HLN.out] at q1
    have HC1 := Lib.hid hC
    have HEN : Hid (∀ (W : World) t, W = wc.drewN t → ¬ othM m r < (onlyA m i a).lv (plc a) → ∃ ρ', Chr ρ w ρ' W ∧ ∃ tv lv, MA W ρ' { L with trv := tv, lw := upd L.lw (plc a) lv } (onlyM m i a (othM m r))) := fun W t e hlt => by
      subst e
      refine ⟨ρ1, hC.drewN t, tv, L.lw (plc a), ?_⟩
      unfold onlyM
      rw [if_neg hlt, upd_self]
      exact hM.drewN t
    have HEY : Hid (∀ W ρ' v, othM m r < (onlyA m i a).lv (plc a) → (∃ t, Chr ρ1 (wc.drewN t) ρ' W) → MA W ρ' { L with trv := tv, lw := upd L.lw (plc a) v } { onlyA m i a with lt := upd (onlyA m i a).lt (plc a) ((onlyA m i a).lt (plc a) ++ [i]) } → ∃ ρ', Chr ρ w ρ' W ∧ ∃ tv lv, MA W ρ' { L with trv := tv, lw := upd L.lw (plc a) lv } (onlyM m i a (othM m r))) := fun W ρ' v hlt ⟨t, hc⟩ hm => by
      refine ⟨ρ', (hC.drewN t).trans hc, tv, v, ?_⟩
      unfold onlyM
      rw [if_pos hlt]
      exact hm
    have hwl : ((onlyA m i a).lt (plc a)).length ≤ 1000000000 := by rw [onlyA_lt]; exact hw
    have HCB : Hid (ptrC { L with trv := tv } i = .pointer (some ⟨L.cb i, 0, none⟩)) := rfl
    clear hC hM q2 HCA HV HBV hbv HX c1 c2 HA HCI HCV
    generalize hY : (onlyA m i a).lv (plc a) = y at *
    clear hY
    have HLA := Lib.hid hla1
    clear hla1
    cases r with
    | nil =>
      have hO : othM m [] = 0 := rfl
      rw [hO] at HEN HEY
      have hln : ([] : List Int).length = 0 := rfl
      rw [hln] at q1 hcl HLN
      clear HOT hO hln
      by_cases hlt : 0 < y
      · have hd : decide ((0 : Int) < (y : Int)) = true := decide_eq_true (by omega)
        have hd2 : decide (0 < y) = true := decide_eq_true hlt
        have HLT := Lib.hid hlt
        clear HEN
        go_wp2_with fail
        refine (HO.out 0).mono ?_
        rintro e w2 ⟨rfl, t, rfl⟩
        have HWR := (HM.out t).at' (.l (plc a))
        have hwr := HWR.1
        rw [List.length_map] at hwr
        have HWR := Lib.hid hwr
        have g4 := (HM.out t).var (v := plc a) (k := 4) HLA.out (by omega)
        rw [show vcell ({ L with trv := tv } : Lay) (onlyA m i a) (plc a) 4 = L.lw (plc a) from rfl] at g4
        clear hwr
        go_wp2_with (at_builtin; refine wpList_appV 69 73 (.pointer none) 8 Try.underlying69 infoPc rfl (by decide) rfl _ _ rfl _ 0 (L.lw (plc a)) _ _ (.pointer (some ⟨L.cb i, 0, none⟩)) rfl HWR.out (Nat.zero_le _) (by omega) _ (by simp) rfl rfl ?_; intro v5 w5 hown5 hap5; obtain ⟨a5, k5, rfl, _⟩ := own_shape hown5; rw [show ((onlyA m i a).lt (plc a)).map (ptrC { L with trv := tv }) ++ [.pointer (some ⟨L.cb i, 0, none⟩)] = ((onlyA m i a).lt (plc a) ++ [i]).map (ptrC { L with trv := tv }) by simp [ptrC]] at hown5; obtain ⟨ρ5, hM5, hC5, c5, f5⟩ := (HM.out t).lApp HLA.out hap5 hown5; have HR := Lib.hid (HEY.out _ _ _ HLT.out ⟨_, hC5⟩ hM5); clear hM5 hC5 hown5 hap5)
        (try simp only [Exit.inBlock, Exit.then])
        refine bodyPost_end (results_none rfl _ _ _) rfl ?_
        exact ⟨rfl, HR.out⟩
      · have hd : decide ((0 : Int) < (y : Int)) = false := decide_eq_false (by omega)
        have hd2 : decide (0 < y) = false := decide_eq_false hlt
        have HLT := Lib.hid hlt
        clear HEY
        go_wp2_with fail
        refine (HO.out 0).mono ?_
        rintro e w2 ⟨rfl, t, rfl⟩
        have HR := Lib.hid (HEN.out _ t rfl HLT.out)
        go_wp2_with fail
        (try simp only [Exit.inBlock, Exit.then])
        refine bodyPost_end (results_none rfl _ _ _) rfl ?_
        exact ⟨rfl, HR.out⟩
    | cons b r' =>
      obtain ⟨hob, gb, d3⟩ := HOT.out b r' rfl
      have HOB := Lib.hid hob
      have hln : (b :: r').length = r'.length + 1 := rfl
      rw [hln] at q1 hcl HLN
      clear HOT hob hln
      generalize hO : othM m (b :: r') = o at *
      have HOE := Lib.hid hO
      clear hO
      generalize r'.length = N at *
      by_cases hlt : o < y
      · have hd : decide ((o : Int) < (y : Int)) = true := decide_eq_true (by omega)
        have hd2 : decide (o < y) = true := decide_eq_true hlt
        have HLT := Lib.hid hlt
        clear HEN
        go_wp2_with fail
        refine (HOB.out 0).mono ?_
        rintro e w2 ⟨rfl, t, rfl⟩
        go_wp2_with fail
        refine (HO.out t).mono ?_
        rintro e w2 ⟨rfl, t2, rfl⟩
        rw [World.drewN_drewN]
        have HWR := (HM.out (t + t2)).at' (.l (plc a))
        have hwr := HWR.1
        rw [List.length_map] at hwr
        have HWR := Lib.hid hwr
        have g4 := (HM.out (t + t2)).var (v := plc a) (k := 4) HLA.out (by omega)
        rw [show vcell ({ L with trv := tv } : Lay) (onlyA m i a) (plc a) 4 = L.lw (plc a) from rfl] at g4
        clear hwr
        go_wp2_with (at_builtin; refine wpList_appV 69 73 (.pointer none) 8 Try.underlying69 infoPc rfl (by decide) rfl _ _ rfl _ 0 (L.lw (plc a)) _ _ (.pointer (some ⟨L.cb i, 0, none⟩)) rfl HWR.out (Nat.zero_le _) (by omega) _ (by simp) rfl rfl ?_; intro v5 w5 hown5 hap5; obtain ⟨a5, k5, rfl, _⟩ := own_shape hown5; rw [show ((onlyA m i a).lt (plc a)).map (ptrC { L with trv := tv }) ++ [.pointer (some ⟨L.cb i, 0, none⟩)] = ((onlyA m i a).lt (plc a) ++ [i]).map (ptrC { L with trv := tv }) by simp [ptrC]] at hown5; obtain ⟨ρ5, hM5, hC5, c5, f5⟩ := (HM.out (t + t2)).lApp HLA.out hap5 hown5; have HR := Lib.hid (HEY.out _ _ _ HLT.out ⟨_, hC5⟩ hM5); clear hM5 hC5 hown5 hap5)
        (try simp only [Exit.inBlock, Exit.then])
        refine bodyPost_end (results_none rfl _ _ _) rfl ?_
        exact ⟨rfl, by rw [HOE.out]; exact HR.out⟩
      · have hd : decide ((o : Int) < (y : Int)) = false := decide_eq_false (by omega)
        have hd2 : decide (o < y) = false := decide_eq_false hlt
        have HLT := Lib.hid hlt
        clear HEY
        go_wp2_with fail
        refine (HOB.out 0).mono ?_
        rintro e w2 ⟨rfl, t, rfl⟩
        go_wp2_with fail
        refine (HO.out t).mono ?_
        rintro e w2 ⟨rfl, t2, rfl⟩
        rw [World.drewN_drewN]
        have HR := Lib.hid (HEN.out _ (t + t2) rfl HLT.out)
        go_wp2_with fail
        (try simp only [Exit.inBlock, Exit.then])
        refine bodyPost_end (results_none rfl _ _ _) rfl ?_
        exact ⟨rfl, by rw [HOE.out]; exact HR.out⟩

end
end Go.Proofs.Ytmlgpnaikdpifaa

namespace Go.Proofs.Ytmlgpnaikdpifaa
open Go.RowKit

/-! ### Lists whose members change places -/
theorem swapL_len (c : List Int) (a b : Nat) : (swapL c a b).length = c.length := by unfold swapL; simp
theorem swapL_perm (c : List Int) {a b : Nat} (ha : a < c.length) (hb : b < c.length) : (swapL c a b).Perm c := by
  unfold swapL
  rw [show c.getD b 0 = c[b] by simp [List.getD, hb], show c.getD a 0 = c[a] by simp [List.getD, ha]]
  exact List.set_set_perm ha hb
theorem swapL_at (c : List Int) {a b : Nat} (ha : a < c.length) (hb : b < c.length) (j : Nat) : (swapL c a b).getD j 0 = if j = b then c.getD a 0 else if j = a then c.getD b 0 else c.getD j 0 := by
  unfold swapL
  rw [getD_setG, getD_setG]
  simp only [List.length_set]
  by_cases h1 : j = b
  · subst h1; simp [hb]
  · rw [if_neg (fun e => h1 e.1.symm), if_neg h1]
    by_cases h2 : j = a
    · subst h2; simp [ha]
    · rw [if_neg (fun e => h2 e.1.symm), if_neg h2]
theorem swapL_take (c : List Int) {a b p : Nat} (ha : p ≤ a) (hb : p ≤ b) : (swapL c a b).take p = c.take p := by
  unfold swapL
  rw [List.take_set_of_le hb, List.take_set_of_le ha]
/-- How far best has come: k. -/
structure BestI (F : Int → Nat) (c : List Int) (p : Nat) (c' : List Int) (k : Nat) : Prop where
  perm : c'.Perm c
  take : c'.take p = c.take p
  max : ∀ j, p < j → j < k → j < c'.length → F (c'.getD j 0) ≤ F (c'.getD p 0)
theorem BestI.start (F : Int → Nat) (c : List Int) (p : Nat) : BestI F c p c (p + 1) := ⟨.refl _, rfl, fun j h1 h2 => by omega⟩
theorem BestI.stay {F : Int → Nat} {c c' : List Int} {p k : Nat} (h : BestI F c p c' k) (hle : F (c'.getD k 0) ≤ F (c'.getD p 0)) : BestI F c p c' (k + 1) :=
  ⟨h.perm, h.take, fun j h1 h2 h3 => by
    rcases Nat.lt_or_ge j k with h4 | h4
    · exact h.max j h1 h4 h3
    · rw [show j = k by omega]; exact hle⟩
theorem BestI.swap {F : Int → Nat} {c c' : List Int} {p k : Nat} (h : BestI F c p c' k) (hp : p < k) (hk : k < c'.length) (hlt : F (c'.getD p 0) < F (c'.getD k 0)) : BestI F c p (swapL c' p k) (k + 1) :=
  ⟨(swapL_perm c' (by omega) hk).trans h.perm, (swapL_take c' (Nat.le_refl _) (by omega)).trans h.take, fun j h1 h2 h3 => by
    rw [swapL_len] at h3
    rw [swapL_at c' (by omega) hk, swapL_at c' (by omega) hk, if_neg (show ¬ p = k by omega), if_pos rfl]
    by_cases e : j = k
    · rw [if_pos e]; omega
    · rw [if_neg e, if_neg (show ¬ j = p by omega)]
      have := h.max j h1 (by omega) h3
      omega⟩

section
variable {w : World} {ρ : Nat → Option Rl} {L : Lay} {m : Mc}
theorem putCl_cl (m : Mc) (i : Nat) (c : List Int) : (putCl m i c).cl i = some c := upd_same _ _ _
theorem putCl_self {i : Nat} {c : List Int} (h : m.cl i = some c) : putCl m i c = m := by
  unfold putCl
  rw [← h, upd_self]

set_option maxRecDepth 8000 in
set_option maxHeartbeats 8000000 in
theorem mbest_any (h : MA w ρ L m) (i : Nat) (c : List Int) (p : Nat) (hc : m.cl i = some c) (hl : ∀ x ∈ c, plc x ≤ m.n) (hn : m.n ≤ 4000) (hs : m.st.length ≤ 4000) (hp : p ≤ 1) (hcl : c.length ≤ 1000000) :
    Calls Try.prog 84 #[ptrP L, ptrC L i, .int .i64 (p : Int)] w fun e w' => e = .returned (.tuple #[]) ∧ Chr ρ w ρ w' ∧ ∃ c', BestI (ffM m) c p c' c.length ∧ MA w' ρ L (putCl m i c') := by
  have HA : Hid (MA w ρ L (putCl m i c)) := by unfold Hid; rw [putCl_self hc]; exact h
  have HL := Lib.hid hl
  clear h hc hl
  unfold ptrP
  have HPC : Hid (ptrC L i = .pointer (some ⟨L.cb i, 0, none⟩)) := rfl
  rw [HPC.out]
  generalize hN : c.length = N at *
  have HN := Lib.hid hN
  clear hN
  have HB0 := Lib.hid (BestI.start (ffM m) c p)
  have HCH := Lib.hid (Chr.refl ρ w)
  go_enter Try.func84, Try.ntmps84
  go_wp2_with fail
  go_loopw [6] (fun u6 wr => ∃ (k : Nat) (c' : List Int), p + 1 ≤ k ∧ k ≤ N + 2 ∧ u6 = .int .i64 (k : Int) ∧ Chr ρ w ρ wr ∧ BestI (ffM m) c p c' k ∧ MA wr ρ L (putCl m i c')) (fun u6 _ => N + 2 - (intOf u6).toNat)
  case atStart => exact ⟨p + 1, c, Nat.le_refl _, by omega, by go_num, HCH.out, HB0.out, HA.out⟩
  case round =>
    obtain ⟨k, c', hk1, hk2, rfl, hC, hB, hM⟩ := hrel
    have hlen : c'.length = N := by rw [hB.perm.length_eq]; exact HN.out
    have hcl' := putCl_cl m i c'
    have q1 := (hM.cells hcl').2
    have ho := hM.lit hcl'
    obtain ⟨sa, sc, hsh, _⟩ := own_shape ho
    rw [hsh, hlen] at q1
    have HB := Lib.hid hB
    have HC := Lib.hid hC
    have HM := Lib.hid (fun t => hM.drewN t)
    by_cases hk : k < N
    · obtain ⟨g, kc, e, _, hcell, _, _, _⟩ := hM.lits hcl' (by omega)
      rw [hsh] at e
      injection e with e1 _ e3
      subst e1; subst e3
      have x1 := hcell k (c'.getD k 0) (by simp [List.getD, show k < c'.length by omega])
      have x2 := hcell p (c'.getD p 0) (by simp [List.getD, show p < c'.length by omega])
      have hm1 : ∀ j, j < c'.length → plc (c'.getD j 0) ≤ m.n := fun j hj => HL.out _ (hB.perm.mem_iff.1 (by rw [show c'.getD j 0 = c'[j] by simp [List.getD, hj]]; exact List.getElem_mem hj))
      have HF1 := Lib.hid (fun t => mff_any (hM.drewN t) (c'.getD k 0) (hm1 k (by omega)) hn hs)
      have HF2 := Lib.hid (fun t => mff_any (hM.drewN t) (c'.getD p 0) (hm1 p (by omega)) hn hs)
      have HST : Hid (ffM (putCl m i c') (c'.getD k 0) ≤ ffM (putCl m i c') (c'.getD p 0) → BestI (ffM m) c p c' (k + 1)) := fun hle => hB.stay hle
      have HSW : Hid (¬ ffM (putCl m i c') (c'.getD k 0) ≤ ffM (putCl m i c') (c'.getD p 0) → BestI (ffM m) c p (swapL c' p k) (k + 1)) := fun hle => hB.swap (by omega) (by omega) (by unfold putCl at hle; unfold ffM at *; simp only at hle; omega)
      have HWP := Lib.hid (fun t => mswap_any (hM.drewN t) i c' p k hcl' (by omega) (by omega) (by omega))
      rw [HPC.out] at HWP
      have HLN := Lib.hid hlen
      clear hcell hm1 hM hB hC hcl' ho hsh hlen HB0 HA HCH
      generalize hy1 : ffM (putCl m i c') (c'.getD k 0) = y1 at *
      generalize hy2 : ffM (putCl m i c') (c'.getD p 0) = y2 at *
      clear hy1 hy2
      generalize c'.getD k 0 = l1 at *
      generalize c'.getD p 0 = l2 at *
      have hNp : p < N := by omega
      go_wp2_with fail
      go_quiet (first | (go_at_call_of 96 (Value.int IntKind.i64 l1); refine Calls.quiet_of (HF1.out _)) | (refine Calls.quiet_of (HF2.out _)))
      by_cases hle : y1 ≤ y2
      · have hd : ¬ y2 < y1 := by omega
        have HS := Lib.hid (HST.out hle)
        clear hle
        go_wp2_with fail
        go_roundw
        case rel => exact ⟨k + 1, c', by omega, by omega, by go_num, HC.out.drewN _, HS.out, HM.out _⟩
        case measure => go_light; simp [intOf]; omega
      · have hd : y2 < y1 := by omega
        have HS := Lib.hid (HSW.out hle)
        clear hle
        go_wp2_with fail
        refine (HWP.out _).mono ?_
        rintro e w2 ⟨rfl, hC2, hM2⟩
        rw [putCl_twice] at hM2
        have HM2 := Lib.hid hM2
        have HC2 := Lib.hid ((HC.out.drewN _).trans hC2)
        clear hM2 hC2
        go_wp2_with fail
        go_roundw
        case rel => exact ⟨k + 1, swapL c' p k, by omega, by omega, by go_num, HC2.out, HS.out, HM2.out⟩
        case measure => go_light; simp [intOf]; omega
    · have hd : decide ((k : Int) < (N : Int)) = false := decide_eq_false (by omega)
      have hd2 : decide (k < N) = false := decide_eq_false hk
      have HE : Hid (BestI (ffM m) c p c' N) := ⟨hB.perm, hB.take, fun j h1 h2 h3 => hB.max j h1 (by omega) h3⟩
      clear hM hB hC hcl' ho hsh hlen hk
      go_wp2_with fail
      (try simp only [Exit.inBlock, Exit.then])
      refine bodyPost_end (results_none rfl _ _ _) rfl ?_
      exact ⟨rfl, HC.out, c', HE.out, HM.out 0⟩

end
end Go.Proofs.Ytmlgpnaikdpifaa

namespace Go.Proofs.Ytmlgpnaikdpifaa
open Go.RowKit

section
variable {w : World} {ρ : Nat → Option Rl} {L : Lay} {m : Mc}
/-- What rewatch answers, and leaves. -/
def RewR (w : World) (ρ : Nat → Option Rl) (L : Lay) (m : Mc) (i : Nat) (c : List Int) (b : Bool) (w' : World) : Prop :=
  (b = false ∧ w' = w ∧ ∀ j, 2 ≤ j → j < c.length → valL m.vs (c.getD j 0) = 2) ∨
  (b = true ∧ ∃ j, 2 ≤ j ∧ j < c.length ∧ valL m.vs (c.getD j 0) ≠ 2 ∧ ∃ ρ', Chr ρ w ρ' w' ∧ ∃ v, MA w' ρ' { L with wv := upd L.wv (wx (c.getD j 0)) v } (wat (putCl m i (swapL c 1 j)) i (c.getD j 0)))

set_option maxRecDepth 8000 in
set_option maxHeartbeats 8000000 in
theorem mrew_any (h : MA w ρ L m) (i : Nat) (c : List Int) (hc : m.cl i = some c) (hl : ∀ x ∈ c, plc x ≤ m.n) (hn : m.n ≤ 4000) (hcl : c.length ≤ 1000000) (hc2 : 2 ≤ c.length) (hw : ∀ j, (m.wt j).length ≤ 1000000000) :
    Calls Try.prog 82 #[ptrP L, ptrC L i] w fun e w' => ∃ b, e = .returned (.bool b) ∧ RewR w ρ L m i c b w' := by
  have HA := Lib.hid h
  have HL := Lib.hid hl
  have HCI := Lib.hid hc
  have HW := Lib.hid hw
  obtain ⟨g, kc, e, _, hcell, _, _, _⟩ := h.lits hc (by omega)
  have q1 := (h.cells hc).2
  rw [e] at q1
  have HCELL := Lib.hid hcell
  clear h hc hl e hcell hw
  unfold ptrP
  have HPC : Hid (ptrC L i = .pointer (some ⟨L.cb i, 0, none⟩)) := rfl
  rw [HPC.out]
  generalize hN : c.length = N at *
  have HN := Lib.hid hN
  clear hN
  have HR : Hid (∀ b w', RewR w ρ L m i c b w' → RewR w ρ L m i c b w') := fun _ _ h => h
  go_enter Try.func82, Try.ntmps82
  go_wp2_with fail
  go_loopw [5] (fun u5 wr => ∃ k : Nat, 2 ≤ k ∧ k ≤ N ∧ u5 = .int .i64 (k : Int) ∧ wr = w ∧ Hid (∀ j, 2 ≤ j → j < k → valL m.vs (c.getD j 0) = 2)) (fun u5 _ => N - (intOf u5).toNat)
  case atStart => exact ⟨2, Nat.le_refl _, hc2, rfl, rfl, fun j h1 h2 => by omega⟩
  case round =>
    obtain ⟨k, hk1, hk2, rfl, rfl, HI⟩ := hrel
    by_cases hk : k < N
    · have x1 := HCELL.out k (c.getD k 0) (by simp [List.getD, show k < c.length by rw [HN.out]; exact hk])
      have hpl := HL.out (c.getD k 0) (by rw [show c.getD k 0 = c[k]'(by rw [HN.out]; exact hk) by simp [List.getD, show k < c.length by rw [HN.out]; exact hk]]; exact List.getElem_mem _)
      have e := plc_abs (c.getD k 0)
      have hb : -4000 ≤ c.getD k 0 ∧ c.getD k 0 ≤ 4000 := by unfold absI at e; split at e <;> omega
      have HV := Lib.hid (mval_any HA.out (c.getD k 0) (by omega) (by omega))
      have HPL := Lib.hid hpl
      clear e hb hpl
      by_cases hv : valL m.vs (c.getD k 0) = 2
      · have HV2 := Lib.hid hv
        rw [hv] at HV
        clear hv
        generalize hy : c.getD k 0 = y at *
        have HY := Lib.hid hy
        clear hy
        go_wp2_with fail
        refine HV.out.mono ?_
        rintro e w2 ⟨rfl, rfl⟩
        go_wp2_with fail
        go_roundw
        case rel =>
          refine ⟨k + 1, by omega, by omega, by go_num, by first | rfl | trivial, fun j h1 h2 => ?_⟩
          rcases Nat.lt_or_ge j k with h3 | h3
          · exact HI.out j h1 h3
          · rw [show j = k by omega, HY.out]; exact HV2.out
        case measure => go_light; simp [intOf]; omega
      · have HV2 := Lib.hid hv
        have hvb : (valL m.vs (c.getD k 0) == 2) = false := beq_eq_false_iff_ne.2 hv
        have hvn : (valL m.vs (c.getD k 0) != 2) = true := bne_iff_ne.2 hv
        have HWP := Lib.hid (mswap_any HA.out i c 1 k HCI.out (by rw [HN.out]; omega) (by rw [HN.out]; omega) (by omega))
        rw [HPC.out] at HWP
        have HWA : Hid (∀ W, Chr ρ wr ρ W → MA W ρ L (putCl m i (swapL c 1 k)) → Calls Try.prog 85 #[.pointer (some ⟨L.p, 0, none⟩), .pointer (some ⟨L.cb i, 0, none⟩), .int .i64 1] W fun e w' => e = .returned (.tuple #[]) ∧ RewR wr ρ L m i c true w') := fun W hC hM => by
          refine (mwatch_any hM i (swapL c 1 k) 1 (c.getD k 0) (putCl_cl _ _ _) ?_ HPL.out hn (HW.out _)).mono ?_
          · have := swapL_at c (a := 1) (b := k) (by rw [HN.out]; omega) (by rw [HN.out]; omega) 1
            rw [if_neg (by omega), if_pos rfl] at this
            rw [← this]
            simp [List.getD, swapL_len, show 1 < c.length by rw [HN.out]; omega]
          · rintro e w' ⟨he, ρ', hC', v, hM'⟩
            exact ⟨he, .inr ⟨rfl, k, hk1, by rw [HN.out]; exact hk, HV2.out, ρ', hC.trans hC', v, hM'⟩⟩
        clear hv HV2
        generalize valL m.vs (c.getD k 0) = x at *
        generalize c.getD k 0 = y at *
        go_wp2_with fail
        refine HV.out.mono ?_
        rintro e w2 ⟨rfl, rfl⟩
        go_wp2_with fail
        refine HWP.out.mono ?_
        rintro e w2 ⟨rfl, hC2, hM2⟩
        have HWB := Lib.hid (HWA.out _ hC2 hM2)
        clear hC2 hM2
        go_wp2_with fail
        refine HWB.out.mono ?_
        rintro e w3 ⟨rfl, hR⟩
        have HRR := Lib.hid hR
        clear hR
        go_wp2_with fail
        go_ret
        exact ⟨_, rfl, HRR.out⟩
    · have hd : ¬ k < N := hk
      have HE : Hid (RewR wr ρ L m i c false wr) := .inl ⟨rfl, rfl, fun j h1 h2 => HI.out j h1 (by rw [HN.out] at h2; omega)⟩
      clear hk
      go_wp2_with fail
      go_ret
      exact ⟨_, rfl, HE.out⟩

end
end Go.Proofs.Ytmlgpnaikdpifaa
