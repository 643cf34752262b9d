/- What prop's tell, settle and Propagate keep, purely. No conditions beyond those typed. -/
import Derived.Test.YtjlmooimdogmjaaLg14
set_option linter.unusedVariables false
set_option linter.unusedSimpArgs false
namespace Go.Proofs.Ytjlmooimdogmjaa
open Go.RowKit

/-- Of a state these stay, or only grow. -/
structure McX (m m' : Mc) : Prop where
  n : m'.n = m.n
  st : m'.st = m.st
  nx : m'.nx = m.nx
  mp : m'.mp = m.mp
  tr : ∃ e, m'.tr = m.tr ++ e
  rs : ∀ l ∈ m.tr, m'.rs (plc l) = m.rs (plc l)
  cl : ∀ i, (m.cl i = none ∧ m'.cl i = none) ∨ ∃ c d, m.cl i = some c ∧ m'.cl i = some d ∧ d.Perm c
theorem McX.refl (m : Mc) : McX m m := ⟨rfl, rfl, rfl, rfl, ⟨[], by simp⟩, fun _ _ => rfl, fun i => by
  cases h : m.cl i with
  | none => exact .inl ⟨rfl, rfl⟩
  | some c => exact .inr ⟨c, c, rfl, rfl, .refl _⟩⟩
theorem McX.trans {a b c : Mc} (h : McX a b) (k : McX b c) : McX a c where
  n := k.n.trans h.n
  st := k.st.trans h.st
  nx := k.nx.trans h.nx
  mp := k.mp.trans h.mp
  tr := by
    obtain ⟨e, he⟩ := h.tr
    obtain ⟨f, hf⟩ := k.tr
    exact ⟨e ++ f, by rw [hf, he, List.append_assoc]⟩
  rs := fun l hl => by
    obtain ⟨e, he⟩ := h.tr
    exact (k.rs l (by rw [he]; simp [hl])).trans (h.rs l hl)
  cl := fun i => by
    rcases h.cl i with ⟨h1, h2⟩ | ⟨c, d, h1, h2, h3⟩
    · rcases k.cl i with ⟨k1, k2⟩ | ⟨c', d', k1, _⟩
      · exact .inl ⟨h1, k2⟩
      · rw [h2] at k1; cases k1
    · rcases k.cl i with ⟨k1, _⟩ | ⟨c', d', k1, k2, k3⟩
      · rw [h2] at k1; cases k1
      · rw [h2] at k1
        injection k1 with k1
        subst k1
        exact .inr ⟨c, d', h1, k2, k3.trans h3⟩
section
variable {m : Mc}
theorem McX.of {m' : Mc} (h1 : m'.n = m.n) (h2 : m'.st = m.st) (h3 : m'.nx = m.nx) (h4 : m'.mp = m.mp) (h5 : m'.tr = m.tr) (h6 : m'.rs = m.rs) (h7 : m'.cl = m.cl) : McX m m' :=
  ⟨h1, h2, h3, h4, ⟨[], by rw [h5]; simp⟩, fun _ _ => by rw [h6], fun i => by rw [h7]; exact (McX.refl m).cl i⟩
theorem McX.putCl {i : Nat} {c c' : List Int} (hc : m.cl i = some c) (hp : c'.Perm c) : McX m (putCl m i c') :=
  ⟨rfl, rfl, rfl, rfl, ⟨[], by show m.tr = _; simp⟩, fun _ _ => rfl, fun j => by
    by_cases e : j = i
    · subst e; exact .inr ⟨c, c', hc, upd_same _ _ _, hp⟩
    · have : (Proofs.Ytjlmooimdogmjaa.putCl m i c').cl j = m.cl j := upd_ne _ _ e
      rw [this]; exact (McX.refl m).cl j⟩
theorem McX.only {i : Nat} {a : Int} {o : Nat} (h : McW m) {r : List Int} (hc : m.cl i = some (a :: r)) (hv : valL m.vs a ≠ 2) : McX m (onlyM m i a o) := by
  have h1 : McX m (onlyA m i a) := by
    unfold onlyA
    by_cases h0 : valL m.vs a = 0
    · rw [if_pos h0]
      exact ⟨rfl, rfl, rfl, rfl, ⟨[a], rfl⟩, fun l hl => upd_ne _ _ (h.unk h0 l hl), fun j => (McX.refl m).cl j⟩
    · rw [if_neg h0]; exact McX.refl m
  refine h1.trans ?_
  unfold onlyM
  split
  · exact McX.of rfl rfl rfl rfl rfl rfl rfl
  · exact McX.refl _

theorem tr_mem_pos {tr : List Int} {l : Int} (h : l ∈ tr) : ∃ p, p < tr.length ∧ tr.getD p 0 = l := mem_getD h
theorem McW.rs_head (h : McW m) {v k : Nat} (hr : m.rs v = some k) : ∃ p c, p < m.tr.length ∧ plc (m.tr.getD p 0) = v ∧ m.cl k = some (m.tr.getD p 0 :: c) := by
  have hk : ¬ ∀ l ∈ m.tr, plc l ≠ v := fun hn => by rw [h.rs0 v hn] at hr; cases hr
  have : ∃ l ∈ m.tr, plc l = v := by
    refine Classical.byContradiction fun hn => hk fun l hl e => hn ⟨l, hl, e⟩
  obtain ⟨l, hl, e⟩ := this
  obtain ⟨p, hp, rfl⟩ := tr_mem_pos hl
  have hs : p ∉ m.st := fun hs => by
    have := h.dec p hp hs
    rw [e, hr] at this; cases this
  obtain ⟨k', c, h1, h2, _⟩ := h.rsn p hp hs
  rw [e, hr] at h1
  injection h1 with h1
  subst h1
  exact ⟨p, c, hp, e, h2⟩
theorem getD_mem' {tr : List Int} {p : Nat} (h : p < tr.length) : tr.getD p 0 ∈ tr := getD_mem h
/-- A clause whose first literal is not true is no reason. -/
theorem McW.not_rs (h : McW m) {i : Nat} {a : Int} {r : List Int} (hc : m.cl i = some (a :: r)) (ha : a ∉ m.tr) (v : Nat) : m.rs v ≠ some i := fun hr => by
  obtain ⟨p, c, hp, _, h2⟩ := h.rs_head hr
  rw [hc] at h2
  injection h2 with h2
  injection h2 with h2 _
  exact ha (h2 ▸ getD_mem' hp)
theorem McW.clsne (h : McW m) {i : Nat} {a b : Int} {r : List Int} (hc : m.cl i = some (a :: b :: r)) : a ≠ b ∧ a ≠ -b ∧ plc a ≠ plc b := by
  obtain ⟨_, h2, h3⟩ := h.cls i _ hc
  have h1 : a ≠ b := by simp at h2; exact fun e => h2.1.1 e
  have h4 : a ≠ -b := fun e => (h3 b (by simp)).2 (by rw [← e]; simp)
  exact ⟨h1, h4, fun e => (plc_pm e).elim h1 h4⟩

theorem getD_apps {tr e : List Int} {p : Nat} (h : p < tr.length) : (tr ++ e).getD p 0 = tr.getD p 0 := by simp [List.getD, List.getElem?_append_left h]
/-! ### In the middle of tell -/
structure TI (m : Mc) (x : Int) (rest wrong : List Nat) : Prop where
  w : McW m
  l : McL m (· ∈ m.td)
  r : ∀ i ∈ m.td, ∀ v, m.rs v ≠ some i
  t0 : 0 < m.told
  tx : m.tr.getD (m.told - 1) 0 = -x
  rn : rest.Nodup
  rin : ∀ i ∈ rest, i ∈ m.wt (wx x)
  wn : wrong.Nodup
  win : ∀ i ∈ wrong, i ∉ m.td ∧ i ∉ rest ∧ ∃ c, m.cl i = some c ∧ ∀ l ∈ c, -l ∈ m.tr
  s : ∀ i, i ∉ m.td → i ∉ wrong → Sm m (if i ∈ rest then m.told - 1 else m.told) i
variable {x : Int} {rest wrong : List Nat}
theorem TI.lt (h : TI m x rest wrong) : m.told - 1 < m.tr.length := by have := h.w.told; have := h.t0; omega
theorem TI.neg (h : TI m x rest wrong) : -x ∈ m.tr := by rw [← h.tx]; exact getD_mem' h.lt
theorem TI.take (h : TI m x rest wrong) : -x ∈ m.tr.take m.told := by rw [← h.tx]; exact (h.w.take_iff h.lt).2 (by have := h.t0; omega)
theorem TI.ntake (h : TI m x rest wrong) : -x ∉ m.tr.take (m.told - 1) := by rw [← h.tx]; exact fun hm => by have := (h.w.take_iff h.lt).1 hm; omega
theorem TI.nx (h : TI m x rest wrong) : x ∉ m.tr := fun hx => h.w.nb hx h.neg
theorem TI.take_of (h : TI m x rest wrong) {a : Int} (ha : a ≠ x) (hn : -a ∉ m.tr.take (m.told - 1)) : -a ∉ m.tr.take m.told := fun hm => by
  obtain ⟨p, hp, hpt, e⟩ := tr_of_take hm
  rcases Nat.lt_or_ge p (m.told - 1) with h1 | h1
  · exact hn (e ▸ tr_mem_take hp h1)
  · have : p = m.told - 1 := by omega
    rw [this, h.tx] at e
    exact ha (by omega)
theorem TI.head (h : TI m x rest wrong) {i : Nat} (hi : i ∈ rest) : i ∉ m.td ∧ i ∉ wrong ∧ ((∃ b r, m.cl i = some (x :: b :: r)) ∨ ∃ a r, m.cl i = some (a :: x :: r)) := by
  obtain ⟨h1, a, b, r, h2, h3⟩ := h.l.wtc _ i (h.rin i hi)
  refine ⟨h1, fun hw => (h.win i hw).2.1 hi, ?_⟩
  rcases h3 with h3 | h3
  · rw [← wx_inj h3] at h2; exact .inl ⟨b, r, h2⟩
  · rw [← wx_inj h3] at h2; exact .inr ⟨a, r, h2⟩
/-- Of a clause that is gone through now, x its second literal. -/
theorem TI.now (h : TI m x rest wrong) {i : Nat} (hi : i ∈ rest) {a : Int} {r : List Int} (hc : m.cl i = some (a :: x :: r)) : -a ∉ m.tr.take m.told ∧ i ∉ m.lt (plc a) := by
  obtain ⟨h1, h2, _⟩ := h.head hi
  have hs := h.s i h1 h2
  rw [if_pos hi] at hs
  obtain ⟨k1, k2, _⟩ := hs _ hc
  refine ⟨h.take_of (h.w.clsne hc).1 k1, fun hm => ?_⟩
  exact h.ntake (k2.1 hm).1
theorem rest_if {i j : Nat} (hn : (i :: rest).Nodup) (a b : Nat) : (j ≠ i → (if j ∈ i :: rest then a else b) = (if j ∈ rest then a else b)) ∧ (if i ∈ rest then a else b) = b := by
  rw [List.nodup_cons] at hn
  refine ⟨fun hj => ?_, if_neg hn.1⟩
  by_cases hm : j ∈ rest
  · rw [if_pos hm, if_pos (by simp [hm])]
  · rw [if_neg hm, if_neg (by simp [hj, hm])]
/-- One more is gone through, and stays where it is. -/
theorem TI.next {i : Nat} (h : TI m x (i :: rest) wrong) (hs : Sm m m.told i) : TI m x rest wrong where
  w := h.w
  l := h.l
  r := h.r
  t0 := h.t0
  tx := h.tx
  rn := (List.nodup_cons.1 h.rn).2
  rin := fun j hj => h.rin j (by simp [hj])
  wn := h.wn
  win := fun j hj => ⟨(h.win j hj).1, fun hm => (h.win j hj).2.1 (by simp [hm]), (h.win j hj).2.2⟩
  s := fun j h1 h2 => by
    obtain ⟨e1, e2⟩ := rest_if (j := j) h.rn (m.told - 1) m.told
    by_cases e : j = i
    · subst e; rw [e2]; exact hs
    · rw [← e1 e]; exact h.s j h1 h2
theorem TI.keep {i : Nat} (h : TI m x (i :: rest) wrong) {a : Int} {r : List Int} (hc : m.cl i = some (a :: x :: r)) (ha : a ∈ m.tr) (hl : m.lv (plc a) ≤ m.lv (plc x)) : TI m x rest wrong := by
  obtain ⟨h1, h2⟩ := h.now (by simp) hc
  refine h.next fun c hc' => ?_
  rw [hc] at hc'
  injection hc' with hc'
  subst hc'
  exact ⟨h1, ⟨fun hm => (h2 hm).elim, fun hm => by omega⟩, fun _ => ha⟩
theorem TI.bad {i : Nat} (h : TI m x (i :: rest) wrong) {c : List Int} (hc : m.cl i = some c) (hf : ∀ l ∈ c, -l ∈ m.tr) : TI m x rest (wrong ++ [i]) where
  w := h.w
  l := h.l
  r := h.r
  t0 := h.t0
  tx := h.tx
  rn := (List.nodup_cons.1 h.rn).2
  rin := fun j hj => h.rin j (by simp [hj])
  wn := by
    rw [List.nodup_append]
    exact ⟨h.wn, by simp, fun y hy z hz e => by simp at hz; subst hz; subst e; exact (h.win _ hy).2.1 (by simp)⟩
  win := fun j hj => by
    rw [List.mem_append, List.mem_singleton] at hj
    rcases hj with hj | rfl
    · exact ⟨(h.win j hj).1, fun hm => (h.win j hj).2.1 (by simp [hm]), (h.win j hj).2.2⟩
    · exact ⟨(h.head (by simp)).1, (List.nodup_cons.1 h.rn).1, c, hc, hf⟩
  s := fun j h1 h2 => by
    rw [List.mem_append, List.mem_singleton, not_or] at h2
    rw [← (rest_if (j := j) h.rn (m.told - 1) m.told).1 h2.2]
    exact h.s j h1 h2.1
/-- The two watched literals change places. -/
theorem McL.swap2 {F : Nat → Prop} (h : McL m F) {i : Nat} {a b : Int} {r : List Int} (hc : m.cl i = some (a :: b :: r)) (hl : ∀ v, i ∉ m.lt v) : McL (Proofs.Ytjlmooimdogmjaa.putCl m i (b :: a :: r)) F where
  tdn := h.tdn
  tdF := fun j hj => by
    obtain ⟨h1, d, h2⟩ := h.tdF j hj
    refine ⟨h1, ?_⟩
    by_cases e : j = i
    · subst e; exact ⟨_, upd_same _ _ _⟩
    · exact ⟨d, (upd_ne _ _ e).trans h2⟩
  ltN := h.ltN
  ltc := fun v j hj => by
    obtain ⟨h1, a', r', h2, h3⟩ := h.ltc v j hj
    exact ⟨h1, a', r', (upd_ne _ _ (fun e => hl v (by rw [← e]; exact hj))).trans h2, h3⟩
  wtN := h.wtN
  wtc := fun v j hj => by
    obtain ⟨h1, a', b', r', h2, h3⟩ := h.wtc v j hj
    by_cases e : j = i
    · subst e
      rw [hc] at h2
      injection h2 with h2
      injection h2 with e1 h2
      injection h2 with e2 e3
      subst e1; subst e2
      exact ⟨h1, b, a, r, upd_same _ _ _, h3.symm⟩
    · exact ⟨h1, a', b', r', (upd_ne _ _ e).trans h2, h3⟩
  wtd := fun j d hd hf => by
    by_cases e : j = i
    · subst e
      have hd' : some (b :: a :: r) = some d := (upd_same m.cl j (some (b :: a :: r))).symm.trans hd
      injection hd' with hd'
      subst hd'
      obtain ⟨h3, h4⟩ := (h.wtd j _ hc hf).2 a b r rfl
      exact ⟨by simp, fun a' b' r' e => by
        injection e with e1 e
        injection e with e2 _
        subst e1; subst e2
        exact ⟨h4, h3⟩⟩
    · exact h.wtd j d ((upd_ne m.cl (some (b :: a :: r)) e).symm.trans hd) hf
theorem TI.swap {i : Nat} (h : TI m x rest wrong) (hi : i ∈ rest) {b : Int} {r : List Int} (hc : m.cl i = some (x :: b :: r)) : TI (Proofs.Ytjlmooimdogmjaa.putCl m i (b :: x :: r)) x rest wrong := by
  obtain ⟨n1, n2, _⟩ := h.head hi
  have hlt : ∀ v, i ∉ m.lt v := fun v hm => by
    obtain ⟨_, a, r', h2, _, h4⟩ := h.l.ltc v i hm
    rw [hc] at h2
    injection h2 with h2
    injection h2 with e1 _
    exact h.nx (e1 ▸ h4)
  have hp : (b :: x :: r).Perm (x :: b :: r) := List.Perm.swap ..
  refine { w := h.w.putCl hc hp (.inl (h.w.not_rs hc h.nx)), l := h.l.swap2 hc hlt, r := h.r, t0 := h.t0, tx := h.tx, rn := h.rn, rin := h.rin, wn := h.wn, win := fun j hj => ?_, s := fun j h1 h2 => ?_ }
  · obtain ⟨h1, h2, c, h3, h4⟩ := h.win j hj
    have hne : j ≠ i := fun e => h2 (e ▸ hi)
    exact ⟨h1, h2, c, (upd_ne _ _ hne).trans h3, h4⟩
  · by_cases e : j = i
    · subst e
      show Sm _ (if j ∈ rest then m.told - 1 else m.told) j
      rw [if_pos hi]
      have hs := h.s j h1 h2
      rw [if_pos hi] at hs
      obtain ⟨k1, k2, k3⟩ := hs _ hc
      intro d hd
      have hd' : some (b :: x :: r) = some d := (upd_same m.cl j (some (b :: x :: r))).symm.trans hd
      injection hd' with hd'
      subst hd'
      exact ⟨fun hm => h.nx (k3 hm), ⟨fun hm => (hlt _ hm).elim, fun hm => (h.ntake hm.1).elim⟩, fun hm => (h.ntake hm).elim⟩
    · exact (h.s j h1 h2).putCl e
/-- Its last literal that is not false is true from now on. -/
theorem TI.only {i : Nat} (h : TI m x (i :: rest) wrong) {a : Int} {r : List Int} (hc : m.cl i = some (a :: x :: r)) (hv : valL m.vs a ≠ 2) (hr : ∀ l ∈ r, -l ∈ m.tr) : TI (onlyM m i a (m.lv (plc x))) x rest wrong := by
  obtain ⟨h1, h2⟩ := h.now (by simp) hc
  obtain ⟨n1, n2, _⟩ := h.head (i := i) (by simp)
  have hrx : ∀ l ∈ x :: r, -l ∈ m.tr := fun l hl => by
    rcases List.mem_cons.1 hl with rfl | hl
    · exact h.neg
    · exact hr l hl
  have S := onlyM_spec h.w hc hv hrx (m.lv (plc x)) h.l.ltN h2
  generalize onlyM m i a (m.lv (plc x)) = m' at S
  obtain ⟨e, he⟩ := S.tr
  have htold : m.told ≤ m.tr.length := h.w.told
  have htk : ∀ t, t ≤ m.tr.length → m'.tr.take t = m.tr.take t := fun t ht => by rw [he]; exact List.take_append_of_le_length ht
  have hlx : m'.lv (plc x) = m.lv (plc x) := by rw [← plc_ng x]; exact S.lv _ h.neg
  refine { w := S.w, l := ?_, r := fun j hj v => ?_, t0 := by rw [S.told]; exact h.t0, tx := ?_, rn := (List.nodup_cons.1 h.rn).2, rin := fun j hj => by rw [S.wt]; exact h.rin j (by simp [hj]), wn := h.wn, win := fun j hj => ?_, s := fun j k1 k2 => ?_ }
  · refine { tdn := by rw [S.td]; exact h.l.tdn, tdF := fun j hj => ?_, ltN := S.ltN, ltc := fun v j hj => ?_, wtN := by rw [S.wt]; exact h.l.wtN, wtc := fun v j hj => ?_, wtd := fun j c hc' hf => ?_ }
    · rw [S.td] at hj ⊢; rw [S.cl]; exact h.l.tdF j hj
    · rw [S.lt] at hj
      rw [S.td, S.cl]
      rcases hj with hj | ⟨rfl, rfl, _⟩
      · obtain ⟨k1, a', r', k2, k3, k4⟩ := h.l.ltc v j hj
        exact ⟨k1, a', r', k2, k3, by rw [he]; simp [k4]⟩
      · exact ⟨n1, a, _, hc, rfl, S.mem⟩
    · rw [S.wt] at hj; rw [S.td, S.cl]; exact h.l.wtc v j hj
    · rw [S.cl] at hc'; rw [S.td] at hf; rw [S.wt]; exact h.l.wtd j c hc' hf
  · rw [S.td] at hj
    intro hk
    rcases S.rs v j hk with hk | rfl
    · exact h.r j hj v hk
    · exact n1 hj
  · rw [S.told, he, getD_apps h.lt]; exact h.tx
  · obtain ⟨k1, k2, c, k3, k4⟩ := h.win j hj
    exact ⟨by rw [S.td]; exact k1, fun hm => k2 (by simp [hm]), c, by rw [S.cl]; exact k3, fun l hl => by rw [he]; simp [k4 l hl]⟩
  · rw [S.td] at k1
    rw [S.told]
    obtain ⟨e1, e2⟩ := rest_if (j := j) h.rn (m.told - 1) m.told
    by_cases ej : j = i
    · subst ej
      rw [e2]
      intro c hc'
      rw [S.cl, hc] at hc'
      injection hc' with hc'
      subst hc'
      rw [htk _ htold]
      refine ⟨h1, ?_, fun _ => S.mem⟩
      rw [S.lt, hlx]
      exact ⟨fun hm => hm.elim (fun hm => (h2 hm).elim) (fun ⟨_, _, hm⟩ => ⟨h.take, hm⟩), fun ⟨_, hm⟩ => .inr ⟨rfl, rfl, hm⟩⟩
    · rw [← e1 ej]
      refine S.sm _ j ?_ ej (h.s j k1 k2)
      split <;> omega
end
end Go.Proofs.Ytjlmooimdogmjaa
