/- Where a variable stands on a prop's trail ('ix'), its level ('lvI'), what is taught by a conflict, purely: the clause on its way from a conflict ('Sd'), what holds of it ('StI'), and of what is taught ('LesR'). No conditions beyond those typed. -/
import Derived.Test.YtjlmooimdogmjaaLg04
set_option linter.unusedVariables false
set_option linter.unusedSimpArgs false
set_option linter.unusedVariables false
set_option linter.unusedSimpArgs false
namespace Go.Proofs.Ytjlmooimdogmjaa
open Go.RowKit

def ix (p : Pr) (v : Int) : Nat := (posV p.tr v.toNat).getD 0
def lvI (p : Pr) (i : Nat) : Nat := p.st.countP fun s => decide (s ≤ i)
def vrI (p : Pr) (i : Nat) : Int := (plc (p.tr.getD i 0) : Int)
section
variable {p : Pr}
theorem PrW.ixI (h : PrW p) {i : Nat} (hi : i < p.tr.length) : ix p (vrI p i) = i := by
  unfold ix vrI
  rw [Int.toNat_natCast, h.pos hi]
  rfl
theorem PrW.levI (h : PrW p) {i : Nat} (hi : i < p.tr.length) : levP p (vrI p i) = (lvI p i : Int) := levP_some (h.pos hi)
theorem PrW.reaI (h : PrW p) {i : Nat} (hi : i < p.tr.length) : reaP p (vrI p i) = p.rs.getD i (-1) := by
  unfold reaP vrI
  rw [Int.toNat_natCast, h.pos hi]
theorem PrW.vr_inj (h : PrW p) {i j : Nat} (hi : i < p.tr.length) (hj : j < p.tr.length) (e : vrI p i = vrI p j) : i = j := by
  rw [← h.ixI hi, e, h.ixI hj]
theorem lvI_mono {i j : Nat} (h : i ≤ j) : lvI p i ≤ lvI p j := by
  unfold lvI
  exact List.countP_mono_left fun s _ hs => by simp at hs ⊢; omega
theorem lvI_st {i j : Nat} (hj : j ∈ p.st) (h : i < j) : lvI p i < lvI p j := by
  unfold lvI
  obtain ⟨a, b, e⟩ := List.append_of_mem hj
  rw [e]
  simp only [List.countP_append, List.countP_cons]
  have h1 : a.countP (fun s => decide (s ≤ i)) ≤ a.countP (fun s => decide (s ≤ j)) := List.countP_mono_left fun s _ hs => by simp at hs ⊢; omega
  have h2 : b.countP (fun s => decide (s ≤ i)) ≤ b.countP (fun s => decide (s ≤ j)) := List.countP_mono_left fun s _ hs => by simp at hs ⊢; omega
  rw [if_neg (by simp; omega), if_pos (by simp)]
  omega
theorem lvI_pos {i : Nat} (hi : i ∈ p.st) : 0 < lvI p i := List.countP_pos_iff.2 ⟨i, hi, by simp⟩
theorem lvI_le (i : Nat) : lvI p i ≤ p.st.length := List.countP_le_length
/-- A literal on the trail, and where. -/
theorem tr_at {l : Int} (h : l ∈ p.tr) : ∃ i, i < p.tr.length ∧ p.tr.getD i 0 = l ∧ vrI p i = (plc l : Int) := by
  obtain ⟨i, hi, e⟩ := mem_getD h
  exact ⟨i, hi, e, by unfold vrI; rw [e]⟩
theorem PrW.tr_same (h : PrW p) {l m : Int} (hl : l ∈ p.tr) (hm : m ∈ p.tr) (e : plc l = plc m) : l = m := by
  obtain ⟨i, hi, e1, e2⟩ := tr_at hl
  obtain ⟨j, hj, e3, e4⟩ := tr_at hm
  have := h.vr_inj hi hj (by rw [e2, e4, e])
  rw [← e1, ← e3, this]
theorem PrW.tr_get (h : PrW p) {l : Int} {i : Nat} (hi : i < p.tr.length) (hl : l ∈ p.tr) (e : vrI p i = (plc l : Int)) : p.tr.getD i 0 = l := by
  refine h.tr_same (getD_mem hi) hl ?_
  unfold vrI at e
  exact Int.ofNat.inj e
/-- What is of no level follows of nothing. -/
theorem PrW.fol0 (h : PrW p) (D : List Int) : ∀ m i, i < m → i < p.tr.length → lvI p i = 0 → Fol (clsP p) D (p.tr.getD i 0)
  | 0, _, hm, _, _ => absurd hm (Nat.not_lt_zero _)
  | m + 1, i, hm, hi, h0 => by
    have hs : i ∉ p.st := fun hs => by have := lvI_pos hs; omega
    obtain ⟨k, c, _, hc, hl, hk⟩ := h.rsn i hi hs
    refine .unit (mem_clsP.2 ⟨k, hc⟩) hl fun x hx hne => ?_
    obtain ⟨j, hj, e⟩ := List.getElem_of_mem (hk x hx hne)
    have hj' : j < i ∧ j < p.tr.length := by simp at hj; omega
    have hm0 := lvI_mono (p := p) (Nat.le_of_lt hj'.1)
    have := h.fol0 D m j (by omega) hj'.2 (by omega)
    rw [← e, List.getElem_take]
    simpa [List.getD, hj'.2] using this

/-! ### The clause on its way -/
structure Sd where
  many : Nat
  below : List Int
  seen : List Int
def meetS (p : Pr) (top : Int) (s : Sd) (l : Int) : Sd :=
  if (plc l : Int) ∈ s.seen then s
  else if levP p (plc l : Int) = top then ⟨s.many + 1, s.below, s.seen ++ [(plc l : Int)]⟩
  else if 0 < levP p (plc l : Int) then ⟨s.many, s.below ++ [l], s.seen ++ [(plc l : Int)]⟩
  else ⟨s.many, s.below, s.seen ++ [(plc l : Int)]⟩
def meetF (p : Pr) (top : Int) (s : Sd) (c : List Int) : Sd := c.foldl (meetS p top) s
/-- What holds of it while it meets literals. -/
structure MtI (p : Pr) (top : Int) (n : Nat) (s : Sd) : Prop where
  nd : s.seen.Nodup
  kn : ∀ v ∈ s.seen, ∃ i, i < p.tr.length ∧ v = vrI p i
  le : ∀ v ∈ s.seen, levP p v ≤ top
  many : s.many = s.seen.countP fun v => decide (levP p v = top) && decide (ix p v < n)
  bel : ∀ l ∈ s.below, -l ∈ p.tr ∧ (plc l : Int) ∈ s.seen ∧ 0 < levP p (plc l : Int) ∧ levP p (plc l : Int) ≠ top
  bnd : (s.below.map plc).Nodup
  allb : ∀ v ∈ s.seen, levP p v ≠ top → 0 < levP p v → ∃ l ∈ s.below, (plc l : Int) = v
theorem meetS_seen (top : Int) (s : Sd) (l v : Int) : v ∈ (meetS p top s l).seen ↔ v ∈ s.seen ∨ v = (plc l : Int) := by
  unfold meetS
  by_cases h : (plc l : Int) ∈ s.seen
  · rw [if_pos h]
    exact ⟨.inl, fun hh => hh.elim id fun e => by rw [e]; exact h⟩
  · rw [if_neg h]
    split
    · simp
    · split <;> simp
theorem meetF_seen (top : Int) : ∀ (c : List Int) (s : Sd) (v : Int), v ∈ (meetF p top s c).seen ↔ v ∈ s.seen ∨ ∃ l ∈ c, v = (plc l : Int)
  | [], s, v => by simp [meetF]
  | l :: c, s, v => by
    have := meetF_seen top c (meetS p top s l) v
    unfold meetF at this ⊢
    rw [List.foldl_cons, this, meetS_seen]
    constructor
    · rintro ((h | h) | ⟨x, hx, e⟩)
      · exact .inl h
      · exact .inr ⟨l, by simp, h⟩
      · exact .inr ⟨x, by simp [hx], e⟩
    · rintro (h | ⟨x, hx, e⟩)
      · exact .inl (.inl h)
      · rcases List.mem_cons.1 hx with rfl | hx
        · exact .inl (.inr e)
        · exact .inr ⟨x, hx, e⟩
theorem MtI.step {top : Int} {n : Nat} {s : Sd} (h : MtI p top n s) (l : Int) (hl : -l ∈ p.tr ∨ (plc l : Int) ∈ s.seen) (hle : levP p (plc l : Int) ≤ top) (hn : (plc l : Int) ∉ s.seen → levP p (plc l : Int) = top → ix p (plc l : Int) < n) : MtI p top n (meetS p top s l) := by
  unfold meetS
  by_cases hs : (plc l : Int) ∈ s.seen
  · rw [if_pos hs]; exact h
  rw [if_neg hs]
  have hlt : -l ∈ p.tr := hl.resolve_right hs
  obtain ⟨i, hi, e1, e2⟩ := tr_at hlt
  rw [plc_negate] at e2
  have nd : (s.seen ++ [(plc l : Int)]).Nodup := by
    rw [List.nodup_append]
    exact ⟨h.nd, by simp, fun a ha b hb e => by simp at hb; exact hs (by rw [← hb, ← e]; exact ha)⟩
  have kn : ∀ v ∈ s.seen ++ [(plc l : Int)], ∃ i, i < p.tr.length ∧ v = vrI p i := fun v hv => by
    rcases List.mem_append.1 hv with hv | hv
    · exact h.kn v hv
    · simp at hv; exact ⟨i, hi, by rw [hv, e2]⟩
  have le : ∀ v ∈ s.seen ++ [(plc l : Int)], levP p v ≤ top := fun v hv => by
    rcases List.mem_append.1 hv with hv | hv
    · exact h.le v hv
    · simp at hv; rw [hv]; exact hle
  have hbel : ∀ m ∈ s.below, -m ∈ p.tr ∧ (plc m : Int) ∈ s.seen ++ [(plc l : Int)] ∧ 0 < levP p (plc m : Int) ∧ levP p (plc m : Int) ≠ top := fun m hm => by
    obtain ⟨k1, k2, k3⟩ := h.bel m hm
    exact ⟨k1, List.mem_append_left _ k2, k3⟩
  by_cases ht : levP p (plc l : Int) = top
  · rw [if_pos ht]
    refine ⟨nd, kn, le, ?_, hbel, h.bnd, fun v hv h1 h2 => ?_⟩
    · show s.many + 1 = _
      rw [List.countP_append, ← h.many, List.countP_singleton, if_pos (by simp [ht, hn hs ht])]
    · rcases List.mem_append.1 hv with hv | hv
      · exact h.allb v hv h1 h2
      · simp at hv; rw [hv] at h1; exact absurd ht h1
  rw [if_neg ht]
  have hm : s.many = (s.seen ++ [(plc l : Int)]).countP fun v => decide (levP p v = top) && decide (ix p v < n) := by
    rw [List.countP_append, ← h.many, List.countP_singleton, if_neg (by simp [ht])]
    rfl
  by_cases h0 : 0 < levP p (plc l : Int)
  · rw [if_pos h0]
    refine ⟨nd, kn, le, hm, fun m hm => ?_, ?_, fun v hv h1 h2 => ?_⟩
    · rcases List.mem_append.1 hm with hm | hm
      · exact hbel m hm
      · simp at hm; subst hm
        exact ⟨hlt, by simp, h0, ht⟩
    · rw [List.map_append, List.nodup_append]
      refine ⟨h.bnd, by simp, fun a ha b hb e => ?_⟩
      obtain ⟨m, hm, rfl⟩ := List.mem_map.1 ha
      simp at hb
      have := (h.bel m hm).2.1
      rw [e, hb] at this
      exact hs this
    · rcases List.mem_append.1 hv with hv | hv
      · obtain ⟨m, hm, e⟩ := h.allb v hv h1 h2
        exact ⟨m, List.mem_append_left _ hm, e⟩
      · simp at hv; exact ⟨l, by simp, hv.symm⟩
  · rw [if_neg h0]
    refine ⟨nd, kn, le, hm, hbel, h.bnd, fun v hv h1 h2 => ?_⟩
    rcases List.mem_append.1 hv with hv | hv
    · exact h.allb v hv h1 h2
    · simp at hv; rw [hv] at h2; exact absurd h2 h0
theorem MtI.fold {top : Int} {n : Nat} : ∀ (c : List Int) {s : Sd}, MtI p top n s → (∀ l ∈ c, (-l ∈ p.tr ∨ (plc l : Int) ∈ s.seen) ∧ levP p (plc l : Int) ≤ top ∧ ((plc l : Int) ∉ s.seen → levP p (plc l : Int) = top → ix p (plc l : Int) < n)) → MtI p top n (meetF p top s c)
  | [], s, h, _ => h
  | l :: c, s, h, hc => by
    obtain ⟨h1, h2, h3⟩ := hc l (by simp)
    have := MtI.fold c (h.step l h1 h2 h3) fun x hx => by
      obtain ⟨k1, k2, k3⟩ := hc x (by simp [hx])
      exact ⟨k1.imp id fun hm => (meetS_seen top s l _).2 (.inl hm), k2, fun hn ht => k3 (fun hm => hn ((meetS_seen top s l _).2 (.inl hm))) ht⟩
    unfold meetF at this ⊢
    rwa [List.foldl_cons]
/-- What holds of it on the way down the trail: n places of it are still ahead. -/
structure StI (p : Pr) (c0 : List Int) (top : Int) (n : Nat) (s : Sd) : Prop extends MtI p top n s where
  done : ∀ v ∈ s.seen, levP p v = top → n ≤ ix p v → ∃ k c, p.cl.getD k none = some c ∧ p.tr.getD (ix p v) 0 ∈ c ∧ (∀ l ∈ c, l ≠ p.tr.getD (ix p v) 0 → -l ∈ p.tr.take (ix p v)) ∧ ∀ l ∈ c, (plc l : Int) ∈ s.seen
  cov : ∀ l ∈ c0, (plc l : Int) ∈ s.seen
  pos : 1 ≤ s.many
/-- Whether the variable at place i is open. -/
def opn (p : Pr) (top : Int) (s : Sd) (i : Nat) : Prop := vrI p i ∈ s.seen ∧ levP p (vrI p i) = top
theorem countP_split {l : List Int} (hl : l.Nodup) (P Q : Int → Bool) (x : Int) (hx : x ∈ l) (h1 : P x = true) (h2 : Q x = false) (h3 : ∀ y ∈ l, y ≠ x → P y = Q y) : l.countP P = l.countP Q + 1 := by
  obtain ⟨a, b, rfl⟩ := List.append_of_mem hx
  rw [List.nodup_append, List.nodup_cons] at hl
  obtain ⟨_, ⟨n1, _⟩, n2⟩ := hl
  rw [List.countP_append, List.countP_append, List.countP_cons, List.countP_cons, if_pos h1, if_neg (by rw [h2]; decide)]
  have ea : a.countP P = a.countP Q := List.countP_congr fun y hy => by rw [h3 y (by simp [hy]) (fun e => n2 y hy x (by simp) e)]
  have eb : b.countP P = b.countP Q := List.countP_congr fun y hy => by rw [h3 y (by simp [hy]) (fun e => n1 (by rw [← e]; exact hy))]
  omega
variable {c0 : List Int} {top : Int} {n : Nat} {s : Sd}
theorem StI.lt (h : StI p c0 top n s) (hw : PrW p) (hn : n ≤ p.tr.length) : ∃ i, i < n ∧ opn p top s i := by
  have := h.pos
  rw [h.many] at this
  obtain ⟨v, hv, hh⟩ := List.countP_pos_iff.1 this
  simp at hh
  obtain ⟨i, hi, e⟩ := h.kn v hv
  subst e
  exact ⟨i, by rw [← hw.ixI hi]; exact hh.2, hv, hh.1⟩
/-- Passing a place that is not open. -/
theorem StI.pass {i : Nat} (h : StI p c0 top (i + 1) s) (hw : PrW p) (hno : ¬ opn p top s i) : StI p c0 top i s := by
  have hx : ∀ v ∈ s.seen, levP p v = top → ix p v ≠ i := fun v hv ht e => by
    obtain ⟨j, hj, e2⟩ := h.kn v hv
    subst e2
    rw [hw.ixI hj] at e
    subst e
    exact hno ⟨hv, ht⟩
  refine ⟨⟨h.nd, h.kn, h.le, ?_, h.bel, h.bnd, h.allb⟩, fun v hv ht hi => h.done v hv ht (by have := hx v hv ht; omega), h.cov, h.pos⟩
  rw [h.many]
  refine List.countP_congr fun v hv => ?_
  simp only [Bool.and_eq_true, decide_eq_true_eq]
  constructor
  · rintro ⟨k1, k2⟩; exact ⟨k1, by have := hx v hv k1; omega⟩
  · rintro ⟨k1, k2⟩; exact ⟨k1, by omega⟩
/-- Taking the others of a reason for a place. -/
theorem StI.take {i : Nat} (h : StI p c0 top (i + 1) s) (hw : PrW p) (hi : i < p.tr.length) (ho : opn p top s i) (hm : 1 < s.many) : ∃ (k : Nat) (c : List Int), reaP p (vrI p i) = (k : Int) ∧ p.cl.getD k none = some c ∧ ∀ d : List Int, d.Perm c → StI p c0 top i (meetF p top ⟨s.many - 1, s.below, s.seen⟩ d) := by
  have hsp := countP_split h.nd (fun v => decide (levP p v = top) && decide (ix p v < i + 1)) (fun v => decide (levP p v = top) && decide (ix p v < i)) (vrI p i) ho.1 (by simp [ho.2, hw.ixI hi]) (by simp [hw.ixI hi]) (fun y hy hne => by
    obtain ⟨j, hj, e⟩ := h.kn y hy
    subst e
    rw [hw.ixI hj]
    have : j ≠ i := fun e => hne (by rw [e])
    congr 1
    exact Bool.eq_iff_iff.2 (by simp; omega))
  have hmm := h.many
  rw [hsp] at hmm
  have hns : i ∉ p.st := fun hs => by
    have hpos : 0 < s.seen.countP (fun v => decide (levP p v = top) && decide (ix p v < i)) := by omega
    obtain ⟨v, hv, hh⟩ := List.countP_pos_iff.1 hpos
    simp at hh
    obtain ⟨j, hj, e⟩ := h.kn v hv
    subst e
    rw [hw.ixI hj] at hh
    have h1 := lvI_st hs hh.2
    have h2 := ho.2
    rw [hw.levI hi] at h2
    rw [hw.levI hj] at hh
    omega
  obtain ⟨k, c, e1, hc, hl, hk⟩ := hw.rsn i hi hns
  refine ⟨k, c, by rw [hw.reaI hi, e1], hc, fun d hd => ?_⟩
  have hix : ∀ l ∈ d, l ≠ p.tr.getD i 0 → ∃ j, j < i ∧ (plc l : Int) = vrI p j ∧ -l ∈ p.tr := fun l hl' hne => by
    obtain ⟨j, hj, e⟩ := List.getElem_of_mem (hk l (hd.mem_iff.1 hl') hne)
    have hj' : j < i ∧ j < p.tr.length := by simp at hj; omega
    rw [List.getElem_take] at e
    refine ⟨j, hj'.1, ?_, by rw [← e]; exact List.getElem_mem _⟩
    unfold vrI
    have : p.tr.getD j 0 = -l := by rw [← e]; simp [List.getD, hj'.2]
    rw [this, plc_negate]
  have h0 : MtI p top i ⟨s.many - 1, s.below, s.seen⟩ := ⟨h.nd, h.kn, h.le, by show s.many - 1 = s.seen.countP _; omega, h.bel, h.bnd, h.allb⟩
  have hF := MtI.fold d h0 fun l hl' => by
    by_cases e : l = p.tr.getD i 0
    · refine ⟨.inr (by subst e; exact ho.1), by subst e; exact Int.le_of_eq ho.2, fun hn => absurd (show (plc l : Int) ∈ s.seen by subst e; exact ho.1) hn⟩
    · obtain ⟨j, hj, e2, e3⟩ := hix l hl' e
      have hj' : j < p.tr.length := by omega
      rw [e2, hw.levI hj', hw.ixI hj']
      have := lvI_mono (p := p) (Nat.le_of_lt hj)
      have h2 := ho.2
      rw [hw.levI hi] at h2
      exact ⟨.inl e3, by omega, fun _ _ => hj⟩
  have hse : ∀ v, v ∈ s.seen → v ∈ (meetF p top ⟨s.many - 1, s.below, s.seen⟩ d).seen := fun v hv => (meetF_seen top d _ v).2 (.inl hv)
  refine ⟨hF, fun v hv ht hle => ?_, fun l hl' => hse _ (h.cov l hl'), ?_⟩
  · rcases (meetF_seen top d _ v).1 hv with hv' | ⟨l, hl', e⟩
    · by_cases e : ix p v = i
      · obtain ⟨j, hj, e2⟩ := h.kn v hv'
        subst e2
        rw [hw.ixI hj] at e
        subst e
        rw [hw.ixI hj]
        exact ⟨k, c, hc, hl, hk, fun l hl' => (meetF_seen top d _ _).2 (.inr ⟨l, hd.mem_iff.2 hl', rfl⟩)⟩
      · obtain ⟨k', c', q1, q2, q3, q4⟩ := h.done v hv' ht (by omega)
        exact ⟨k', c', q1, q2, q3, fun l hl' => hse _ (q4 l hl')⟩
    · by_cases e3 : l = p.tr.getD i 0
      · have ev : v = vrI p i := by rw [e, e3]; rfl
        subst ev
        rw [hw.ixI hi]
        exact ⟨k, c, hc, hl, hk, fun l hl' => (meetF_seen top d _ _).2 (.inr ⟨l, hd.mem_iff.2 hl', rfl⟩)⟩
      · obtain ⟨j, hj, e2, _⟩ := hix l hl' e3
        rw [e, e2, hw.ixI (by omega)] at hle
        omega
  · have hF' := hF.many
    rw [hF']
    have : (meetF p top ⟨s.many - 1, s.below, s.seen⟩ d).seen.countP (fun v => decide (levP p v = top) && decide (ix p v < i)) > 0 := by
      have hpos : 0 < s.seen.countP (fun v => decide (levP p v = top) && decide (ix p v < i)) := by omega
      obtain ⟨v, hv, hh⟩ := List.countP_pos_iff.1 hpos
      exact List.countP_pos_iff.2 ⟨v, hse v hv, hh⟩
    omega

/-! ### What is taught -/
def topL (p : Pr) (c : List Int) : Int := c.foldl (fun a l => max a (levP p (plc l : Int))) 0
theorem topL_snoc (c : List Int) (l : Int) : topL p (c ++ [l]) = max (topL p c) (levP p (plc l : Int)) := by unfold topL; rw [List.foldl_append]; rfl
theorem topF (p : Pr) : ∀ (c : List Int) (a : Int), a ≤ c.foldl (fun a l => max a (levP p (plc l : Int))) a ∧ (∀ l ∈ c, levP p (plc l : Int) ≤ c.foldl (fun a l => max a (levP p (plc l : Int))) a) ∧ (c.foldl (fun a l => max a (levP p (plc l : Int))) a = a ∨ ∃ l ∈ c, levP p (plc l : Int) = c.foldl (fun a l => max a (levP p (plc l : Int))) a)
  | [], a => ⟨Int.le_refl _, by simp, .inl rfl⟩
  | x :: c, a => by
    obtain ⟨h1, h2, h3⟩ := topF p c (max a (levP p (plc x : Int)))
    rw [List.foldl_cons]
    refine ⟨by omega, fun l hl => ?_, ?_⟩
    · rcases List.mem_cons.1 hl with rfl | hl
      · omega
      · exact h2 l hl
    · rcases h3 with h3 | ⟨l, hl, e⟩
      · by_cases h : a ≤ levP p (plc x : Int)
        · exact .inr ⟨x, by simp, by rw [h3]; omega⟩
        · exact .inl (by rw [h3]; omega)
      · exact .inr ⟨l, by simp [hl], e⟩
theorem topL_ge (c : List Int) (l : Int) (h : l ∈ c) : levP p (plc l : Int) ≤ topL p c := (topF p c 0).2.1 l h
theorem topL_zero (c : List Int) : 0 ≤ topL p c := (topF p c 0).1
theorem topL_some (c : List Int) : topL p c = 0 ∨ ∃ l ∈ c, levP p (plc l : Int) = topL p c := (topF p c 0).2.2
theorem topL_le (c : List Int) (k : Int) (hk : 0 ≤ k) (h : ∀ l ∈ c, levP p (plc l : Int) ≤ k) : topL p c ≤ k := by
  rcases topL_some (p := p) c with e | ⟨l, hl, e⟩
  · omega
  · have := h l hl; omega
/-- All of c is false. -/
def AllF (p : Pr) (c : List Int) : Prop := ∀ l ∈ c, -l ∈ p.tr
theorem AllF.lev (hw : PrW p) {c : List Int} (h : AllF p c) {l : Int} (hl : l ∈ c) : ∃ i, i < p.tr.length ∧ p.tr.getD i 0 = -l ∧ (plc l : Int) = vrI p i ∧ levP p (plc l : Int) = (lvI p i : Int) := by
  obtain ⟨i, hi, e1, e2⟩ := tr_at (h l hl)
  rw [plc_negate] at e2
  exact ⟨i, hi, e1, e2.symm, by rw [← e2]; exact hw.levI hi⟩
structure LesR (p : Pr) (c0 : List Int) (u : Int) (r : List Int) : Prop where
  tu : -u ∈ p.tr
  top : levP p (plc u : Int) = topL p c0
  rst : ∀ l ∈ r, -l ∈ p.tr ∧ 0 < levP p (plc l : Int) ∧ levP p (plc l : Int) < topL p c0
  nd : (r.map plc).Nodup
  wrg : Wrg (clsP p) (-u :: r.map fun l => -l)
  uip : ∀ l ∈ c0, levP p (plc l : Int) = topL p c0 → ix p (plc u : Int) ≤ ix p (plc l : Int)
/-- How it begins. -/
theorem StI.start (hw : PrW p) {c0 : List Int} (hf : AllF p c0) (h0 : c0 ≠ []) : StI p c0 (topL p c0) p.tr.length (meetF p (topL p c0) ⟨0, [], []⟩ c0) := by
  have hi : MtI p (topL p c0) p.tr.length ⟨0, [], []⟩ := ⟨by simp, by simp, by simp, by simp, by simp, by simp, by simp⟩
  have hF := MtI.fold c0 hi fun l hl => by
    obtain ⟨i, h1, _, h3, _⟩ := hf.lev hw hl
    exact ⟨.inl (hf l hl), topL_ge c0 l hl, fun _ _ => by rw [h3, hw.ixI h1]; exact h1⟩
  have hc : ∀ l ∈ c0, (plc l : Int) ∈ (meetF p (topL p c0) ⟨0, [], []⟩ c0).seen := fun l hl => (meetF_seen _ c0 _ _).2 (.inr ⟨l, hl, rfl⟩)
  refine ⟨hF, fun v hv ht hle => ?_, hc, ?_⟩
  · obtain ⟨i, h1, e⟩ := hF.kn v hv
    subst e
    rw [hw.ixI h1] at hle
    omega
  · rw [hF.many]
    have : ∃ l ∈ c0, levP p (plc l : Int) = topL p c0 := by
      rcases topL_some (p := p) c0 with h | h
      · cases c0 with
        | nil => exact absurd rfl h0
        | cons l c =>
          obtain ⟨i, h1, _, _, h4⟩ := hf.lev hw (l := l) (by simp)
          have := topL_ge (p := p) (l :: c) l (by simp)
          exact ⟨l, by simp, by omega⟩
      · exact h
    obtain ⟨l, hl, e⟩ := this
    obtain ⟨i, h1, _, h3, _⟩ := hf.lev hw hl
    exact List.countP_pos_iff.2 ⟨_, hc l hl, by simp [e]; rw [h3, hw.ixI h1]; exact h1⟩
/-- Where one alone is open. -/
theorem StI.end (hw : PrW p) {c0 : List Int} {i : Nat} {s : Sd} (h : StI p c0 (topL p c0) (i + 1) s) (hi : i < p.tr.length) (ho : opn p (topL p c0) s i) (hm : ¬ 1 < s.many) (hf : AllF p c0) {k : Nat} {c : List Int} (hc : p.cl.getD k none = some c) (hp : c0.Perm c) : LesR p c0 (-(p.tr.getD i 0)) s.below := by
  have hu : plc (-(p.tr.getD i 0)) = plc (p.tr.getD i 0) := plc_negate _
  have hone : ∀ v ∈ s.seen, levP p v = topL p c0 → ix p v < i + 1 → v = vrI p i := fun v hv ht hlt => by
    rcases Classical.em (v = vrI p i) with e | e
    · exact e
    · exfalso
      have h1 := h.many
      have hsp : 2 ≤ s.seen.countP fun v => decide (levP p v = topL p c0) && decide (ix p v < i + 1) := by
        obtain ⟨a, b, e2⟩ := List.append_of_mem hv
        rw [e2, List.countP_append, List.countP_cons, if_pos (by simp [ht]; omega)]
        have ho1 := ho.1
        rw [e2] at ho1
        rcases List.mem_append.1 ho1 with hh | hh
        · have : 0 < a.countP fun v => decide (levP p v = topL p c0) && decide (ix p v < i + 1) := List.countP_pos_iff.2 ⟨_, hh, by simp [ho.2, hw.ixI hi]⟩
          omega
        · have hh := (List.mem_cons.1 hh).resolve_left (fun e' => e e'.symm)
          have : 0 < b.countP fun v => decide (levP p v = topL p c0) && decide (ix p v < i + 1) := List.countP_pos_iff.2 ⟨_, hh, by simp [ho.2, hw.ixI hi]⟩
          omega
      omega
  have hfol : ∀ m j, j < m → j < p.tr.length → vrI p j ∈ s.seen → Fol (clsP p) (p.tr.getD i 0 :: s.below.map fun l => -l) (p.tr.getD j 0) := by
    intro m
    induction m with
    | zero => intro j hj; exact absurd hj (Nat.not_lt_zero _)
    | succ m ih =>
      intro j hj hjl hs
      have hlv := hw.levI hjl
      by_cases h0 : lvI p j = 0
      · exact hw.fol0 _ (j + 1) j (Nat.lt_succ_self _) hjl h0
      by_cases ht : levP p (vrI p j) = topL p c0
      · by_cases hji : j < i + 1
        · have := hone _ hs ht (by rw [hw.ixI hjl]; exact hji)
          rw [hw.vr_inj hjl hi this]
          exact .dec (by simp)
        · obtain ⟨k', c', q1, q2, q3, q4⟩ := h.done _ hs ht (by rw [hw.ixI hjl]; omega)
          rw [hw.ixI hjl] at q2 q3
          refine .unit (mem_clsP.2 ⟨k', q1⟩) q2 fun x hx hne => ?_
          obtain ⟨j', hj', e⟩ := List.getElem_of_mem (q3 x hx hne)
          have hj2 : j' < j ∧ j' < p.tr.length := by simp at hj'; omega
          rw [List.getElem_take] at e
          have eg : p.tr.getD j' 0 = -x := by rw [← e]; simp [List.getD, hj2.2]
          have hv : vrI p j' = (plc x : Int) := by unfold vrI; rw [eg, plc_negate]
          rw [← eg]
          exact ih j' (by omega) hj2.2 (by rw [hv]; exact q4 x hx)
      · obtain ⟨l, hl, e⟩ := h.allb _ hs ht (by omega)
        have h1 := (h.bel l hl).1
        have : p.tr.getD j 0 = -l := hw.tr_get hjl h1 (by rw [plc_negate, e])
        rw [this]
        exact .dec (List.mem_cons_of_mem _ (List.mem_map.2 ⟨l, hl, rfl⟩))
  refine ⟨by rw [Int.neg_neg]; exact getD_mem hi, by rw [hu]; exact ho.2, fun l hl => ?_, h.bnd, ?_, fun l hl ht => ?_⟩
  · obtain ⟨k1, k2, k3, k4⟩ := h.bel l hl
    have := h.le _ k2
    exact ⟨k1, k3, by omega⟩
  · rw [Int.neg_neg]
    refine .inl ⟨c, mem_clsP.2 ⟨k, hc⟩, fun l hl => ?_⟩
    obtain ⟨j, hj, e1, e2, _⟩ := hf.lev hw (hp.mem_iff.2 hl)
    rw [← e1]
    exact hfol (j + 1) j (Nat.lt_succ_self _) hj (by rw [← e2]; exact h.cov l (hp.mem_iff.2 hl))
  · obtain ⟨j, hj, e1, e2, _⟩ := hf.lev hw hl
    have e3 : ((plc (-(p.tr.getD i 0)) : Nat) : Int) = vrI p i := by rw [hu]; rfl
    rw [e3, hw.ixI hi, e2, hw.ixI hj]
    rcases Nat.lt_or_ge j i with hlt | hge
    · exfalso
      have := hone _ (h.cov l hl) ht (by rw [e2, hw.ixI hj]; omega)
      rw [e2] at this
      have := hw.vr_inj hj hi this
      omega
    · exact hge
end
end Go.Proofs.Ytjlmooimdogmjaa
