/- Plain facts on what a clause is worth: true, false, not known, and the one literal that is not false. Holds for all lists; no conditions beyond those typed. -/
import Derived.Test.YtmlgpnaikdpifaaAsgCl
namespace Go.Proofs.Ytmlgpnaikdpifaa
open Go.RowKit

/-- What the fold over a clause's literals holds. -/
def CInv (V c : List Int) (s : Int × Int × Bool) : Prop :=
  (s = (2, 0, false) ∧ ∀ l ∈ c, valL V l ≠ 0) ∨ (s.1 = 0 ∧ s.2.1 ∈ c ∧ valL V s.2.1 = 0 ∧ (s.2.2 = false → ∀ l ∈ c, valL V l = 0 → l = s.2.1))
theorem cinv_step {V c : List Int} {s : Int × Int × Bool} (h : CInv V c s) (l : Int) : CInv V (c ++ [l]) (cstep V s l) := by
  unfold cstep
  by_cases hv : valL V l = 0
  · rw [if_pos hv]
    right
    refine ⟨rfl, by simp, hv, fun hm => ?_⟩
    rcases h with ⟨rfl, h⟩ | ⟨h1, h2, h3, h4⟩
    · intro k hk hz
      rw [List.mem_append] at hk
      rcases hk with hk | hk
      · exact absurd hz (h k hk)
      · simpa using hk
    · simp only [Bool.or_eq_false_iff] at hm
      have e : l = s.2.1 := by have := hm.2; rw [h1] at this; simpa using this
      intro k hk hz
      rw [List.mem_append] at hk
      rcases hk with hk | hk
      · show k = l
        rw [e]; exact h4 hm.1 k hk hz
      · simpa using hk
  · rw [if_neg hv]
    rcases h with ⟨rfl, h⟩ | ⟨h1, h2, h3, h4⟩
    · left
      refine ⟨rfl, fun k hk => ?_⟩
      rw [List.mem_append] at hk
      rcases hk with hk | hk
      · exact h k hk
      · have : k = l := by simpa using hk
        rw [this]; exact hv
    · right
      refine ⟨h1, by simp [h2], h3, fun hm k hk hz => ?_⟩
      rw [List.mem_append] at hk
      rcases hk with hk | hk
      · exact h4 hm k hk hz
      · have : k = l := by simpa using hk
        rw [this] at hz; exact absurd hz hv
theorem cinv_take (V c : List Int) : ∀ k, k ≤ c.length → CInv V (c.take k) (cfold V (c.take k))
  | 0, _ => .inl ⟨rfl, by simp⟩
  | k + 1, hk => by
    rw [cfold_succ V c k (by omega), take_snoc c k (by omega)]
    exact cinv_step (cinv_take V c k (by omega)) _
theorem cinv_all (V c : List Int) : CInv V c (cfold V c) := by
  have := cinv_take V c c.length (Nat.le_refl _)
  rwa [List.take_of_length_le (Nat.le_refl _)] at this

theorem hasTrue_iff (V c : List Int) : hasTrue V c = true ↔ ∃ l ∈ c, valL V l = 1 := by unfold hasTrue; simp
theorem hasTrue_not (V c : List Int) : hasTrue V c = false ↔ ∀ l ∈ c, valL V l ≠ 1 := by unfold hasTrue; simp

theorem clauseL_true {V c : List Int} (h : ∃ l ∈ c, valL V l = 1) : clauseL V c = (1, 0) := by unfold clauseL; rw [if_pos ((hasTrue_iff V c).2 h)]
theorem clauseL_false {V c : List Int} (h : ∀ l ∈ c, valL V l = 2) : (clauseL V c).1 = 2 := by
  unfold clauseL
  rw [if_neg (by rw [hasTrue_iff]; rintro ⟨l, hl, e⟩; rw [h l hl] at e; omega)]
  rcases cinv_all V c with ⟨e, _⟩ | ⟨h1, h2, h3, _⟩
  · rw [e]
  · rw [h _ h2] at h3; omega
theorem clauseL_unk {V c : List Int} (h1 : ∀ l ∈ c, valL V l ≠ 1) (h2 : ∃ l ∈ c, valL V l = 0) : (clauseL V c).1 = 0 := by
  unfold clauseL
  rw [if_neg (by rw [hasTrue_iff]; rintro ⟨l, hl, e⟩; exact h1 l hl e)]
  rcases cinv_all V c with ⟨e, h⟩ | ⟨h, _⟩
  · obtain ⟨l, hl, e⟩ := h2
    exact absurd e (h l hl)
  · exact h
theorem clauseL_three (V c : List Int) : (clauseL V c).1 = 0 ∨ (clauseL V c).1 = 1 ∨ (clauseL V c).1 = 2 := by
  unfold clauseL
  split
  · exact .inr (.inl rfl)
  · rcases cinv_all V c with ⟨e, _⟩ | ⟨h, _⟩
    · rw [e]; exact .inr (.inr rfl)
    · exact .inl h
/-- The one literal. -/
theorem clauseL_one {V c : List Int} (h : (clauseL V c).2 ≠ 0) : (clauseL V c).1 = 0 ∧ (clauseL V c).2 ∈ c ∧ valL V (clauseL V c).2 = 0 ∧ (∀ l ∈ c, valL V l ≠ 1) ∧ ∀ l ∈ c, valL V l = 0 → l = (clauseL V c).2 := by
  have hi := cinv_all V c
  unfold clauseL at h ⊢
  by_cases ht : hasTrue V c = true
  · rw [if_pos ht] at h; exact absurd rfl h
  · rw [if_neg ht] at h ⊢
    have ht' := (hasTrue_not V c).1 (by simpa using ht)
    rcases hi with ⟨e, _⟩ | ⟨h1, h2, h3, h4⟩
    · rw [e] at h; exact absurd rfl h
    · by_cases hm : (cfold V c).2.2 = true
      · simp only [hm, if_true] at h; exact absurd rfl h
      · simp only [hm] at h ⊢
        exact ⟨h1, h2, h3, ht', h4 (by simpa using hm)⟩

theorem valL_set {V : List Int} (m : Nat) (x l : Int) (h1 : 1 ≤ m) (h2 : m < V.length) : valL (V.set m x) l = if plc l = m then (if 0 < l then x else opp x) else valL V l := by
  have hr : rightB (V.set m x) l = rightB V l := by unfold rightB; simp
  have hg : (V.set m x).getD (plc l) 0 = if plc l = m then x else V.getD (plc l) 0 := by
    rw [getD_set]
    by_cases e : plc l = m
    · rw [if_pos e, if_pos (show m = plc l ∧ plc l < V.length from ⟨e.symm, by omega⟩)]
    · rw [if_neg e, if_neg (fun hh : m = plc l ∧ plc l < V.length => e hh.1.symm)]
  unfold valL
  rw [hr, hg]
  by_cases e : plc l = m
  · have : rightB V l = true := by rw [rightB_iff]; omega
    rw [if_pos this, if_pos e, if_pos e]
  · rw [if_neg e, if_neg e]
theorem plc_negate (l : Int) : plc (-l) = plc l := by unfold plc absI; split <;> split <;> omega
theorem plc_eq {l k : Int} (h : plc l = plc k) : l = k ∨ l = -k := by
  have h1 := plc_absI l
  have h2 := plc_absI k
  unfold absI at h1 h2
  split at h1 <;> split at h2 <;> omega
theorem units_facts {V d : List Int} (hV : Vals V) (hd : ∀ l ∈ d, 1 ≤ plc l ∧ plc l < V.length) {o : Int} (ho : (clauseL V d).2 = o) (h0 : o ≠ 0) :
    (clauseL V d).1 = 0 ∧ o ∈ d ∧ setOk V o = true ∧ (clauseL (setV V o) d).1 = 1 ∧ setOk (unsetV (setV V o) (plc o : Int)) (-o) = true ∧
      ((clauseL (setV (unsetV (setV V o) (plc o : Int)) (-o)) d).1 = 2 ∨ -o ∈ d) := by
  subst ho
  obtain ⟨f1, f2, f3, f4, f5⟩ := clauseL_one h0
  generalize (clauseL V d).2 = o at *
  obtain ⟨g1, g2⟩ := hd o f2
  have hr : rightB V o = true := by rw [rightB_iff]; omega
  have hok : setOk V o = true := by unfold setOk; rw [hr, f3]; rfl
  have hs : setV V o = V.set (plc o) (if 0 < o then 1 else 2) := by unfold setV; rw [hok]; rfl
  have hu : unsetV (setV V o) (plc o : Int) = V.set (plc o) 0 := by
    unfold unsetV; rw [hs, if_pos ⟨by omega, by simpa using g2⟩, Int.toNat_natCast, List.set_set]
  have hok2 : setOk (unsetV (setV V o) (plc o : Int)) (-o) = true := by
    rw [hu]; unfold setOk
    rw [valL_set _ _ _ g1 g2, plc_negate, if_pos rfl, show rightB (V.set (plc o) 0) (-o) = true by rw [rightB_iff, plc_negate]; simp; omega]
    split <;> rfl
  refine ⟨f1, f2, hok, ?_, hok2, ?_⟩
  · rw [clauseL_true ⟨o, f2, ?_⟩]
    rw [hs, valL_set _ _ _ g1 g2, if_pos rfl]
    by_cases hp : 0 < o
    · rw [if_pos hp, if_pos hp]
    · rw [if_neg hp, if_neg hp]; rfl
  · by_cases hn : -o ∈ d
    · exact .inr hn
    · left
      refine clauseL_false fun l hl => ?_
      have hs2 : setV (unsetV (setV V o) (plc o : Int)) (-o) = V.set (plc o) (if 0 < -o then 1 else 2) := by
        show (if setOk (unsetV (setV V o) (plc o : Int)) (-o) = true then _ else _) = _
        rw [if_pos hok2, hu, plc_negate, List.set_set]
      rw [hs2, valL_set _ _ _ g1 g2]
      by_cases e : plc l = plc o
      · rw [if_pos e]
        rcases plc_eq e with e | e
        · rw [e]
          by_cases hp : 0 < o
          · rw [if_pos hp, if_neg (by omega)]
          · rw [if_neg hp, if_pos (by omega)]; rfl
        · rw [e] at hl; exact absurd hl hn
      · rw [if_neg e]
        have := f4 l hl
        have h5 := f5 l hl
        have h6 : valL V l ≠ 0 := fun hz => e (by rw [h5 hz])
        have := hV.val l
        omega
end Go.Proofs.Ytmlgpnaikdpifaa
