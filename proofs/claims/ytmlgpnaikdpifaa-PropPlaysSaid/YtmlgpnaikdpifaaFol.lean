/- What follows of clauses and decisions at once ('Fol'), when something is wrong ('Wrg'); values that are closed ('Clo') know just what follows, and then nothing is wrong. Holds for all lists; no conditions beyond those typed. -/
import Derived.Test.YtmlgpnaikdpifaaClP
import Derived.Test.YtmlgpnaikdpifaaAsgAll
namespace Go.Proofs.Ytmlgpnaikdpifaa
open Go.RowKit

inductive Fol (C : List (List Int)) (D : List Int) : Int → Prop
  | dec {l : Int} : l ∈ D → Fol C D l
  | unit {c : List Int} {l : Int} : c ∈ C → l ∈ c → (∀ k ∈ c, k ≠ l → Fol C D (-k)) → Fol C D l
/-- Something is wrong. -/
def Wrg (C : List (List Int)) (D : List Int) : Prop := (∃ c ∈ C, ∀ k ∈ c, Fol C D (-k)) ∨ ∃ l, Fol C D l ∧ Fol C D (-l)
theorem Fol.mono {C C' : List (List Int)} {D D' : List Int} (hC : ∀ c ∈ C, c ∈ C') (hD : ∀ l ∈ D, l ∈ D') {l : Int} (h : Fol C D l) : Fol C' D' l := by
  induction h with
  | dec h => exact .dec (hD _ h)
  | unit h1 h2 _ ih => exact .unit (hC _ h1) h2 ih
theorem Wrg.mono {C C' : List (List Int)} {D D' : List Int} (hC : ∀ c ∈ C, c ∈ C') (hD : ∀ l ∈ D, l ∈ D') (h : Wrg C D) : Wrg C' D' := by
  rcases h with ⟨c, hc, h⟩ | ⟨l, h1, h2⟩
  · exact .inl ⟨c, hC c hc, fun k hk => (h k hk).mono hC hD⟩
  · exact .inr ⟨l, h1.mono hC hD, h2.mono hC hD⟩
/-- All literals have a variable of these. -/
def RgtC (n : Nat) (C : List (List Int)) : Prop := ∀ c ∈ C, ∀ l ∈ c, 1 ≤ plc l ∧ plc l < n
def RgtD (n : Nat) (D : List Int) : Prop := ∀ l ∈ D, 1 ≤ plc l ∧ plc l < n
theorem Fol.rgt {n : Nat} {C : List (List Int)} {D : List Int} (hC : RgtC n C) (hD : RgtD n D) {l : Int} (h : Fol C D l) : 1 ≤ plc l ∧ plc l < n := by
  cases h with
  | dec h => exact hD _ h
  | unit h1 h2 _ => exact hC _ h1 _ h2

/-! ### Values -/
theorem plc_zero' {l : Int} (h : 1 ≤ plc l) : l ≠ 0 := fun e => by subst e; rw [plc_zero] at h; omega
theorem valL_opp {V : List Int} (hV : Vals V) (l : Int) : valL V (-l) = opp (valL V l) := by
  have hr : rightB V (-l) = rightB V l := by unfold rightB; rw [plc_negate]
  unfold valL
  rw [hr, plc_negate]
  by_cases h : rightB V l = true
  · rw [if_pos h, if_pos h]
    have hp := (rightB_iff V l).1 h
    have hz := plc_zero' hp.1
    have h3 := hV.three (plc l)
    by_cases h0 : 0 < l
    · rw [if_neg (show ¬ 0 < -l by omega), if_pos h0]
    · rw [if_pos (show 0 < -l by omega), if_neg h0]
      rcases h3 with e | e | e <;> rw [e] <;> rfl
  · rw [if_neg h, if_neg h]; rfl
theorem val_false {V : List Int} (hV : Vals V) {l : Int} : valL V l = 2 ↔ valL V (-l) = 1 := by
  rw [valL_opp hV]
  rcases hV.val l with e | e | e <;> rw [e] <;> simp [opp]
theorem val_not_both {V : List Int} (hV : Vals V) {l : Int} (h1 : valL V l = 1) (h2 : valL V (-l) = 1) : False := by
  have := (val_false hV).2 h2
  omega

/-! ### A clause with one open literal -/
/-- Where the flag is up, two unlike literals are open. -/
def CTwo (V c : List Int) (s : Int × Int × Bool) : Prop := s.2.2 = true → ∃ a ∈ c, ∃ b ∈ c, a ≠ b ∧ valL V a = 0 ∧ valL V b = 0
theorem ctwo_step {V c : List Int} {s : Int × Int × Bool} (h : CTwo V c s) (hi : CInv V c s) (l : Int) : CTwo V (c ++ [l]) (cstep V s l) := by
  have keep : (∃ a ∈ c, ∃ b ∈ c, a ≠ b ∧ valL V a = 0 ∧ valL V b = 0) → ∃ a ∈ c ++ [l], ∃ b ∈ c ++ [l], a ≠ b ∧ valL V a = 0 ∧ valL V b = 0 := by
    rintro ⟨a, ha, b, hb, r⟩
    exact ⟨a, by simp [ha], b, by simp [hb], r⟩
  unfold cstep CTwo
  by_cases hv : valL V l = 0
  · rw [if_pos hv]
    intro hf
    simp only [Bool.or_eq_true, Bool.and_eq_true, Bool.not_eq_true', decide_eq_true_eq, decide_eq_false_iff_not] at hf
    rcases hf with hf | ⟨h0, hne⟩
    · exact keep (h hf)
    · rcases hi with ⟨e, _⟩ | ⟨_, i2, i3, _⟩
      · rw [e] at h0; cases h0
      · exact ⟨l, by simp, s.2.1, by simp [i2], hne, hv, i3⟩
  · rw [if_neg hv]
    exact fun hf => keep (h hf)
theorem ctwo_take (V c : List Int) : ∀ k, k ≤ c.length → CTwo V (c.take k) (cfold V (c.take k))
  | 0, _ => fun h => by simp [cfold] at h
  | k + 1, hk => by
    rw [cfold_succ V c k (by omega), take_snoc c k (by omega)]
    exact ctwo_step (ctwo_take V c k (by omega)) (cinv_take V c k (by omega)) _
theorem ctwo_all (V c : List Int) : CTwo V c (cfold V c) := by
  have := ctwo_take V c c.length (Nat.le_refl _)
  rwa [List.take_of_length_le (Nat.le_refl _)] at this
/-- If just one literal is open, and no other is true, it is told. -/
theorem clauseL_unit {V c : List Int} {l : Int} (hl : l ∈ c) (h0 : valL V l = 0) (hu : ∀ k ∈ c, k ≠ l → valL V k = 2) : (clauseL V c).2 = l := by
  have ht : hasTrue V c = false := (hasTrue_not V c).2 (fun k hk => by
    by_cases e : k = l
    · rw [e, h0]; decide
    · rw [hu k hk e]; decide)
  unfold clauseL
  rw [if_neg (by rw [ht]; simp)]
  rcases cinv_all V c with ⟨_, h⟩ | ⟨_, h2, h3, _⟩
  · exact absurd h0 (h l hl)
  · have e : (cfold V c).2.1 = l := by
      rcases Classical.em ((cfold V c).2.1 = l) with e | e
      · exact e
      · have := hu _ h2 e; omega
    have hf : (cfold V c).2.2 = false := by
      rcases Bool.eq_false_or_eq_true (cfold V c).2.2 with hf | hf
      · obtain ⟨a, ha, b, hb, hne, ea, eb⟩ := ctwo_all V c hf
        exfalso
        have h1 : a = l := by
          rcases Classical.em (a = l) with e | e
          · exact e
          · have := hu a ha e; omega
        have h2 : b = l := by
          rcases Classical.em (b = l) with e | e
          · exact e
          · have := hu b hb e; omega
        exact hne (h1.trans h2.symm)
      · exact hf
    simp only [hf, e]
    rfl

/-! ### Values that are closed -/
structure Drv (C : List (List Int)) (D : List Int) (V : List Int) : Prop where
  vals : Vals V
  der : ∀ l, valL V l = 1 → Fol C D l
structure Clo (C : List (List Int)) (D : List Int) (V : List Int) : Prop extends Drv C D V where
  start : ∀ l ∈ D, valL V l = 1
  cls : ∀ c ∈ C, (clauseL V c).1 ≠ 2 ∧ (clauseL V c).2 = 0
theorem Clo.all {C : List (List Int)} {D V : List Int} (h : Clo C D V) (hC : RgtC V.length C) {l : Int} (hf : Fol C D l) : valL V l = 1 := by
  induction hf with
  | dec hd => exact h.start _ hd
  | @unit c l hc hl _ ih =>
    obtain ⟨h1, h2⟩ := h.cls c hc
    have hk : ∀ k ∈ c, k ≠ l → valL V k = 2 := fun k hk hne => (val_false h.vals).2 (ih k hk hne)
    rcases h.vals.val l with e | e | e
    · have := clauseL_unit hl e hk
      rw [h2] at this
      exact absurd this.symm (plc_zero' (hC c hc l hl).1)
    · exact e
    · exfalso
      refine h1 (clauseL_false (fun k hk' => ?_))
      by_cases e' : k = l
      · rw [e']; exact e
      · exact hk k hk' e'
theorem Clo.right {C : List (List Int)} {D V : List Int} (h : Clo C D V) (hC : RgtC V.length C) : ¬ Wrg C D := by
  rintro (⟨c, hc, hk⟩ | ⟨l, h1, h2⟩)
  · exact (h.cls c hc).1 (clauseL_false (fun k hk' => (val_false h.vals).2 (h.all hC (hk k hk'))))
  · exact val_not_both h.vals (h.all hC h1) (h.all hC h2)
theorem Clo.iff {C : List (List Int)} {D V : List Int} (h : Clo C D V) (hC : RgtC V.length C) (l : Int) : valL V l = 1 ↔ Fol C D l := ⟨h.der l, h.all hC⟩
/-- A clause that is false, a unit one. -/
theorem Drv.wrong {C : List (List Int)} {D V : List Int} (h : Drv C D V) {c : List Int} (hc : c ∈ C) (h2 : (clauseL V c).1 = 2) : Wrg C D := by
  refine .inl ⟨c, hc, fun k hk => h.der _ ((val_false h.vals).1 ?_)⟩
  rcases h.vals.val k with e | e | e
  · have h1 : ∀ l ∈ c, valL V l ≠ 1 := fun l hl e1 => by rw [clauseL_true ⟨l, hl, e1⟩] at h2; cases h2
    have := clauseL_unk h1 ⟨k, hk, e⟩
    omega
  · rw [clauseL_true ⟨k, hk, e⟩] at h2; cases h2
  · exact e
theorem Drv.next {C : List (List Int)} {D V : List Int} (h : Drv C D V) {c : List Int} (hc : c ∈ C) (h0 : (clauseL V c).2 ≠ 0) : Fol C D (clauseL V c).2 := by
  obtain ⟨_, f2, f3, f4, f5⟩ := clauseL_one h0
  refine .unit hc f2 (fun k hk hne => h.der _ ((val_false h.vals).1 ?_))
  rcases h.vals.val k with e | e | e
  · exact absurd (f5 k hk e) hne
  · exact absurd e (f4 k hk)
  · exact e
theorem valL_setV {V : List Int} {l : Int} (hr : 1 ≤ plc l ∧ plc l < V.length) (h0 : valL V l ≠ 2) (k : Int) : valL (setV V l) k = if k = l then 1 else if k = -l then 2 else valL V k := by
  have hok : setOk V l = true := by unfold setOk; rw [(rightB_iff V l).2 hr]; simp [h0]
  have hz := plc_zero' hr.1
  unfold setV
  rw [if_pos hok, valL_set _ _ _ hr.1 hr.2]
  by_cases e : plc k = plc l
  · rw [if_pos e]
    rcases plc_eq e with e1 | e1
    · subst e1
      rw [if_pos rfl]
      by_cases hp : 0 < k
      · rw [if_pos hp, if_pos hp]
      · rw [if_neg hp, if_neg hp]; rfl
    · subst e1
      rw [if_neg (show ¬ -l = l by omega), if_pos rfl]
      by_cases hp : 0 < l
      · rw [if_neg (show ¬ 0 < -l by omega), if_pos hp]; rfl
      · rw [if_pos (show 0 < -l by omega), if_neg hp]
  · rw [if_neg e, if_neg (fun e1 => e (by rw [e1])), if_neg (fun e1 => e (by rw [e1, plc_negate]))]
theorem Drv.set {C : List (List Int)} {D V : List Int} (h : Drv C D V) {l : Int} (hr : 1 ≤ plc l ∧ plc l < V.length) (h0 : valL V l ≠ 2) (hf : Fol C D l) : Drv C D (setV V l) where
  vals := h.vals.setV l
  der := fun k hk => by
    rw [valL_setV hr h0] at hk
    split at hk
    · rename_i e; rw [e]; exact hf
    · split at hk
      · cases hk
      · exact h.der k hk
theorem setV_keep {V : List Int} {l k : Int} (hr : 1 ≤ plc l ∧ plc l < V.length) (h0 : valL V l ≠ 2) (h1 : valL V k = 1) (hV : Vals V) : valL (setV V l) k = 1 := by
  rw [valL_setV hr h0]
  split
  · rfl
  · split
    · rename_i e
      exfalso
      rw [e] at h1
      exact h0 ((val_false hV).2 h1)
    · exact h1

/-! ### How many are open -/
def zeros (V : List Int) : Nat := V.count 0
theorem zeros_set {V : List Int} {l : Int} (hr : 1 ≤ plc l ∧ plc l < V.length) (h0 : valL V l = 0) (hV : Vals V) : zeros (setV V l) < zeros V := by
  have hok : setOk V l = true := by unfold setOk; rw [(rightB_iff V l).2 hr]; simp [h0]
  have hg : V.getD (plc l) 0 = 0 := by
    unfold valL at h0
    rw [if_pos ((rightB_iff V l).2 hr)] at h0
    split at h0
    · exact h0
    · rcases hV.three (plc l) with e | e | e
      · exact e
      · rw [e] at h0; cases h0
      · rw [e] at h0; cases h0
  have he : V[plc l] = 0 := by simpa [List.getD, hr.2] using hg
  have hp : 0 < V.count 0 := List.count_pos_iff.2 (he ▸ List.getElem_mem hr.2)
  unfold zeros setV
  rw [if_pos hok, List.count_set hr.2, he]
  have : ¬ (if 0 < l then (1 : Int) else 2) = 0 := by split <;> decide
  simp [this]
  omega

/-! ### What is known, in order -/
theorem mem_known1 {v : Nat} {x l : Int} : l ∈ known1 v x ↔ (x = 1 ∧ l = (v : Int)) ∨ (x = 2 ∧ l = -(v : Int)) := by
  unfold known1
  by_cases h1 : x = 1
  · rw [if_pos h1]; simp [h1]
  · rw [if_neg h1]
    by_cases h2 : x = 2
    · rw [if_pos h2]; simp [h2]
    · rw [if_neg h2]; simp [h1, h2]
theorem mem_knownTo {V : List Int} {k : Nat} {l : Int} : l ∈ knownTo V k ↔ ∃ v, v < k ∧ l ∈ known1 v (V.getD v 0) := by
  unfold knownTo
  rw [List.mem_flatMap]
  simp only [List.mem_range]
theorem mem_knownL {V : List Int} (hV : Vals V) (l : Int) : l ∈ knownL V ↔ valL V l = 1 := by
  unfold knownL
  rw [mem_knownTo]
  constructor
  · rintro ⟨v, hv, h⟩
    rw [mem_known1] at h
    have hv1 : 1 ≤ v := by
      rcases Nat.eq_zero_or_pos v with e | e
      · subst e
        rw [hV.zero] at h
        omega
      · exact e
    have hpl : plc l = v := by
      unfold plc absI
      rcases h with ⟨_, e⟩ | ⟨_, e⟩ <;> rw [e] <;> split <;> omega
    unfold valL
    rw [if_pos ((rightB_iff V l).2 (by omega)), hpl]
    rcases h with ⟨e1, e2⟩ | ⟨e1, e2⟩
    · rw [if_pos (by omega), e1]
    · rw [if_neg (by omega), e1]; rfl
  · intro h
    unfold valL at h
    split at h
    · rename_i hr
      rw [rightB_iff] at hr
      have hp := plc_absI l
      refine ⟨plc l, hr.2, mem_known1.2 ?_⟩
      split at h
      · rename_i h0
        left
        refine ⟨h, ?_⟩
        unfold absI at hp
        split at hp <;> omega
      · rename_i h0
        right
        refine ⟨?_, ?_⟩
        · rcases hV.three (plc l) with e | e | e
          · rw [e] at h; cases h
          · rw [e] at h; cases h
          · exact e
        · unfold absI at hp
          split at hp <;> omega
    · cases h
theorem knownTo_pair (V : List Int) : ∀ k, (knownTo V k).Pairwise fun x y => absI x < absI y
  | 0 => by simp [knownTo]
  | k + 1 => by
    rw [knownTo_succ, List.pairwise_append]
    refine ⟨knownTo_pair V k, ?_, fun x hx y hy => ?_⟩
    · unfold known1
      split
      · simp
      · split <;> simp
    · rw [mem_knownTo] at hx
      obtain ⟨v, hv, hx⟩ := hx
      rw [mem_known1] at hx hy
      have h1 : absI x = (v : Int) := by unfold absI; rcases hx with ⟨_, e⟩ | ⟨_, e⟩ <;> rw [e] <;> split <;> omega
      have h2 : absI y = (k : Int) := by unfold absI; rcases hy with ⟨_, e⟩ | ⟨_, e⟩ <;> rw [e] <;> split <;> omega
      omega
theorem knownL_pair (V : List Int) : (knownL V).Pairwise fun x y => absI x < absI y := knownTo_pair V _
end Go.Proofs.Ytmlgpnaikdpifaa
