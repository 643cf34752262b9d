/- Of what decisions a literal follows, purely ('FnI': what holds on the way back through the reasons). No conditions beyond those typed. -/
import Derived.Test.YtjlmooimdogmjaaLg38
set_option linter.unusedVariables false
set_option linter.unusedSimpArgs false
set_option linter.unusedVariables false
set_option linter.unusedSimpArgs false
namespace Go.Proofs.Ytjlmooimdogmjaa
open Go.RowKit

structure FnI (p : Pr) (t0 : Int) (todo met ds : List Int) : Prop where
  td : ∀ t ∈ todo, (t ∈ p.tr ∨ (plc t : Int) ∈ met) ∧ ∃ i, i < p.tr.length ∧ vrI p i = (plc t : Int)
  kn : ∀ v ∈ met, ∃ i, i < p.tr.length ∧ v = vrI p i ∧ lvI p i ≠ 0
  nd : met.Nodup
  dd : ∀ d ∈ ds, ∃ i, i < p.tr.length ∧ i ∈ p.st ∧ p.tr.getD i 0 = d
  mt : ∀ i, i < p.tr.length → vrI p i ∈ met → (i ∈ p.st ∧ p.tr.getD i 0 ∈ ds) ∨ (i ∉ p.st ∧ ∀ (k : Nat) (c : List Int), p.rs.getD i (-1) = (k : Int) → p.cl.getD k none = some c → ∀ x ∈ c, x ≠ p.tr.getD i 0 → (plc x : Int) ∈ met ∨ levP p (plc x : Int) = 0 ∨ -x ∈ todo)
  st : (plc t0 : Int) ∈ met ∨ levP p (plc t0 : Int) = 0 ∨ t0 ∈ todo
  one : (∃ i, i < p.tr.length ∧ i ∈ p.st ∧ p.tr.getD i 0 = t0) → (todo = [t0] ∧ met = [] ∧ ds = []) ∨ (todo = [] ∧ ds = [t0])
  zero : levP p (plc t0 : Int) = 0 → ds = [] ∧ ((todo = [t0] ∧ met = []) ∨ todo = [])
section
variable {p : Pr} {t0 : Int} {rest met ds : List Int} {last : Int}
theorem FnI.start (hw : PrW p) (ht : t0 ∈ p.tr) : FnI p t0 [t0] [] [] := by
  obtain ⟨i, hi, e1, e2⟩ := tr_at ht
  exact ⟨fun t h => by simp at h; subst h; exact ⟨.inl ht, i, hi, e2⟩, by simp, by simp, by simp, by simp, .inr (.inr (by simp)), fun _ => .inl ⟨rfl, rfl, rfl⟩, fun _ => ⟨rfl, .inl ⟨rfl, rfl⟩⟩⟩
/-- One that was met, or is of no level. -/
theorem FnI.pass (h : FnI p t0 (rest ++ [last]) met ds) (hw : PrW p) (hm : (plc last : Int) ∈ met ∨ levP p (plc last : Int) = 0) : FnI p t0 rest met ds := by
  have key : ∀ x : Int, x ∈ rest ++ [last] → ((plc x : Int) ∈ met ∨ levP p (plc x : Int) = 0 ∨ x ∈ rest) := fun x hx => by
    rcases List.mem_append.1 hx with hx | hx
    · exact .inr (.inr hx)
    · simp at hx; subst hx
      exact hm.imp id .inl
  refine ⟨fun t ht => h.td t (List.mem_append_left _ ht), h.kn, h.nd, h.dd, fun i hi hv => ?_, ?_, fun hd => ?_, fun hz => ?_⟩
  · rcases h.mt i hi hv with h1 | ⟨h1, h2⟩
    · exact .inl h1
    · refine .inr ⟨h1, fun k c hk hc x hx hne => ?_⟩
      rcases h2 k c hk hc x hx hne with h3 | h3 | h3
      · exact .inl h3
      · exact .inr (.inl h3)
      · have := key _ h3
        rwa [plc_negate] at this
  · rcases h.st with h1 | h1 | h1
    · exact .inl h1
    · exact .inr (.inl h1)
    · exact key _ h1
  · rcases h.one hd with ⟨h1, h2, h3⟩ | ⟨h1, _⟩
    · exfalso
      have hl : last = t0 := by
        have := congrArg List.getLast? h1
        simpa using this
      obtain ⟨i, hi, his, e⟩ := hd
      rw [h2] at hm
      rcases hm with hm | hm
      · cases hm
      · have hv : vrI p i = (plc last : Int) := by unfold vrI; rw [e, hl]
        rw [← hv, hw.levI hi] at hm
        have := lvI_pos his
        omega
    · simp at h1
  · obtain ⟨h1, h2⟩ := h.zero hz
    refine ⟨h1, .inr ?_⟩
    rcases h2 with ⟨h2, _⟩ | h2
    · cases rest with
      | nil => rfl
      | cons a r => simp at h2
    · simp at h2
/-- A decision. -/
theorem FnI.dec (h : FnI p t0 (rest ++ [last]) met ds) (hw : PrW p) (hm : (plc last : Int) ∉ met) (hz : levP p (plc last : Int) ≠ 0) (hr : reaP p (plc last : Int) = -1) : FnI p t0 rest (met ++ [(plc last : Int)]) (ds ++ [last]) ∧ last ∈ p.tr := by
  have hlt : last ∈ p.tr := (h.td last (by simp)).1.resolve_right hm
  obtain ⟨i, hi, e1, e2⟩ := tr_at hlt
  have his : i ∈ p.st := by
    rw [← e2, hw.reaI hi] at hr
    exact (hw.dec i hi).1 hr
  refine ⟨⟨fun t ht => ?_, fun v hv => ?_, ?_, fun d hd => ?_, fun j hj hv => ?_, ?_, fun hd => ?_, fun h0 => ?_⟩, hlt⟩
  · obtain ⟨k1, k2⟩ := h.td t (List.mem_append_left _ ht)
    exact ⟨k1.imp id fun hh => List.mem_append_left _ hh, k2⟩
  · rcases List.mem_append.1 hv with hv | hv
    · exact h.kn v hv
    · simp at hv; subst hv
      refine ⟨i, hi, e2.symm, fun e => hz ?_⟩
      rw [← e2, hw.levI hi, e]; rfl
  · rw [List.nodup_append]
    exact ⟨h.nd, by simp, fun a ha b hb e => by simp at hb; exact hm (by rw [← hb, ← e]; exact ha)⟩
  · rcases List.mem_append.1 hd with hd | hd
    · exact h.dd d hd
    · simp at hd; subst hd; exact ⟨i, hi, his, e1⟩
  · rcases List.mem_append.1 hv with hv | hv
    · rcases h.mt j hj hv with ⟨h1, h2⟩ | ⟨h1, h2⟩
      · exact .inl ⟨h1, List.mem_append_left _ h2⟩
      · refine .inr ⟨h1, fun k c hk hc x hx hne => ?_⟩
        rcases h2 k c hk hc x hx hne with h3 | h3 | h3
        · exact .inl (List.mem_append_left _ h3)
        · exact .inr (.inl h3)
        · rcases List.mem_append.1 h3 with h3 | h3
          · exact .inr (.inr h3)
          · simp at h3
            refine .inl (List.mem_append_right _ ?_)
            rw [← h3, plc_negate]; simp
    · simp at hv
      have : j = i := hw.vr_inj hj hi (hv.trans e2.symm)
      subst this
      exact .inl ⟨his, List.mem_append_right _ (by rw [e1]; simp)⟩
  · rcases h.st with h1 | h1 | h1
    · exact .inl (List.mem_append_left _ h1)
    · exact .inr (.inl h1)
    · rcases List.mem_append.1 h1 with h1 | h1
      · exact .inr (.inr h1)
      · simp at h1; subst h1; exact .inl (by simp)
  · rcases h.one hd with ⟨h1, h2, h3⟩ | ⟨h1, _⟩
    · have hl : last = t0 := by
        have := congrArg List.getLast? h1
        simpa using this
      have hrr : rest = [] := by
        cases rest with
        | nil => rfl
        | cons a r => simp at h1
      exact .inr ⟨hrr, by rw [h3, hl]; rfl⟩
    · simp at h1
  · obtain ⟨h1, h2⟩ := h.zero h0
    exfalso
    rcases h2 with ⟨h2, _⟩ | h2
    · have hl : last = t0 := by
        have := congrArg List.getLast? h2
        simpa using this
      rw [hl] at hz
      exact hz h0
    · simp at h2
/-- What followed of a clause. -/
theorem FnI.unit (h : FnI p t0 (rest ++ [last]) met ds) (hw : PrW p) (hm : (plc last : Int) ∉ met) (hz : levP p (plc last : Int) ≠ 0) (hr : reaP p (plc last : Int) ≠ -1) : ∃ (k : Nat) (c : List Int), reaP p (plc last : Int) = (k : Int) ∧ p.cl.getD k none = some c ∧ ∀ d : List Int, d.Perm c → FnI p t0 (rest ++ d.map fun x => -x) (met ++ [(plc last : Int)]) ds := by
  have hlt : last ∈ p.tr := (h.td last (by simp)).1.resolve_right hm
  obtain ⟨i, hi, e1, e2⟩ := tr_at hlt
  have his : i ∉ p.st := fun hs => by
    rw [← e2, hw.reaI hi] at hr
    exact hr ((hw.dec i hi).2 hs)
  obtain ⟨k, c, hk, hc, hl, hot⟩ := hw.rsn i hi his
  refine ⟨k, c, by rw [← e2, hw.reaI hi, hk], hc, fun d hd => ?_⟩
  have hx : ∀ x ∈ c, x ≠ last → -x ∈ p.tr := fun x hx hne => List.mem_of_mem_take (hot x hx (by rw [e1]; exact hne))
  refine ⟨fun t ht => ?_, fun v hv => ?_, ?_, h.dd, fun j hj hv => ?_, ?_, fun hdd => ?_, fun h0 => ?_⟩
  · rcases List.mem_append.1 ht with ht | ht
    · obtain ⟨k1, k2⟩ := h.td t (List.mem_append_left _ ht)
      exact ⟨k1.imp id fun hh => List.mem_append_left _ hh, k2⟩
    · obtain ⟨x, hxd, rfl⟩ := List.mem_map.1 ht
      have hxc := hd.mem_iff.1 hxd
      rw [plc_negate]
      by_cases e : x = last
      · subst e
        exact ⟨.inr (by simp), i, hi, e2⟩
      · have hm' := hx x hxc e
        obtain ⟨j, hj, _, e4⟩ := tr_at hm'
        rw [plc_negate] at e4
        exact ⟨.inl hm', j, hj, e4⟩
  · rcases List.mem_append.1 hv with hv | hv
    · exact h.kn v hv
    · simp at hv; subst hv
      refine ⟨i, hi, e2.symm, fun e => hz ?_⟩
      rw [← e2, hw.levI hi, e]; rfl
  · rw [List.nodup_append]
    exact ⟨h.nd, by simp, fun a ha b hb e => by simp at hb; exact hm (by rw [← hb, ← e]; exact ha)⟩
  · rcases List.mem_append.1 hv with hv | hv
    · rcases h.mt j hj hv with h1 | ⟨h1, h2⟩
      · exact .inl h1
      · refine .inr ⟨h1, fun k' c' hk' hc' x hx' hne => ?_⟩
        rcases h2 k' c' hk' hc' x hx' hne with h3 | h3 | h3
        · exact .inl (List.mem_append_left _ h3)
        · exact .inr (.inl h3)
        · rcases List.mem_append.1 h3 with h3 | h3
          · exact .inr (.inr (List.mem_append_left _ h3))
          · simp at h3
            refine .inl (List.mem_append_right _ ?_)
            rw [← h3, plc_negate]; simp
    · simp at hv
      have : j = i := hw.vr_inj hj hi (hv.trans e2.symm)
      subst this
      refine .inr ⟨his, fun k' c' hk' hc' x hx' hne => .inr (.inr (List.mem_append_right _ ?_))⟩
      have hkk : k' = k := by
        have := hk'.symm.trans hk
        omega
      subst hkk
      have hcc : c' = c := Option.some.inj (hc'.symm.trans hc)
      subst hcc
      exact List.mem_map.2 ⟨x, hd.mem_iff.2 hx', rfl⟩
  · rcases h.st with h1 | h1 | h1
    · exact .inl (List.mem_append_left _ h1)
    · exact .inr (.inl h1)
    · rcases List.mem_append.1 h1 with h1 | h1
      · exact .inr (.inr (List.mem_append_left _ h1))
      · simp at h1; subst h1; exact .inl (by simp)
  · exfalso
    rcases h.one hdd with ⟨h1, _, _⟩ | ⟨h1, _⟩
    · have hl' : last = t0 := by
        have := congrArg List.getLast? h1
        simpa using this
      obtain ⟨j, hj, hjs, ej⟩ := hdd
      have : j = i := hw.vr_inj hj hi (by unfold vrI; rw [ej, e1, hl'])
      subst this
      exact his hjs
    · simp at h1
  · obtain ⟨h1, h2⟩ := h.zero h0
    exfalso
    rcases h2 with ⟨h2, _⟩ | h2
    · have hl' : last = t0 := by
        have := congrArg List.getLast? h2
        simpa using this
      rw [hl'] at hz
      exact hz h0
    · simp at h2
theorem FnI.len (h : FnI p t0 rest met ds) (hw : PrW p) : met.length ≤ 4001 := by
  have hsub : met ⊆ (List.range 4001).map (fun (i : Nat) => (i : Int)) := fun v hv => by
    obtain ⟨i, hi, e, _⟩ := h.kn v hv
    have := hw.rgt _ (getD_mem hi)
    have hn := hw.n
    refine List.mem_map.2 ⟨plc (p.tr.getD i 0), List.mem_range.2 (by omega), ?_⟩
    rw [e]; rfl
  have := h.nd.length_le_of_subset hsub
  simpa using this
theorem FnI.fol (h : FnI p t0 [] met ds) (hw : PrW p) (ht : t0 ∈ p.tr) : Fol (clsP p) ds t0 := by
  have hall : ∀ m i, i < m → i < p.tr.length → vrI p i ∈ met → Fol (clsP p) ds (p.tr.getD i 0) := by
    intro m
    induction m with
    | zero => intro i hi; exact absurd hi (Nat.not_lt_zero _)
    | succ m ih =>
      intro i him hi hv
      rcases h.mt i hi hv with ⟨_, h2⟩ | ⟨h1, h2⟩
      · exact .dec h2
      · obtain ⟨k, c, hk, hc, hl, hot⟩ := hw.rsn i hi h1
        refine .unit (mem_clsP.2 ⟨k, hc⟩) hl fun x hx hne => ?_
        obtain ⟨j, hj, e⟩ := List.getElem_of_mem (hot x hx hne)
        have hj' : j < i ∧ j < p.tr.length := by simp at hj; omega
        rw [List.getElem_take] at e
        have eg : p.tr.getD j 0 = -x := by rw [← e]; simp [List.getD, hj'.2]
        have hvj : vrI p j = (plc x : Int) := by unfold vrI; rw [eg, plc_negate]
        rw [← eg]
        rcases h2 k c hk hc x hx hne with h3 | h3 | h3
        · exact ih j (by omega) hj'.2 (by rw [hvj]; exact h3)
        · rw [← hvj, hw.levI hj'.2] at h3
          exact hw.fol0 _ (j + 1) j (Nat.lt_succ_self _) hj'.2 (by omega)
        · cases h3
  obtain ⟨i, hi, e1, e2⟩ := tr_at ht
  rw [← e1]
  rcases h.st with h1 | h1 | h1
  · exact hall (i + 1) i (Nat.lt_succ_self _) hi (by rw [e2]; exact h1)
  · rw [← e2, hw.levI hi] at h1
    exact hw.fol0 _ (i + 1) i (Nat.lt_succ_self _) hi (by omega)
  · cases h1
theorem FnI.sub (h : FnI p t0 rest met ds) : ∀ d ∈ ds, d ∈ decP p := fun d hd => by
  obtain ⟨i, hi, his, e⟩ := h.dd d hd
  exact mem_decP.2 ⟨i, his, e⟩
end
end Go.Proofs.Ytjlmooimdogmjaa
