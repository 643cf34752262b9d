/- Plain facts for the law on models: where all values are known, clauses are true or false just as their model says; what is known of some stays. Holds for all lists; no conditions beyond those typed. -/
import Derived.Test.YtbofgnihockpmaaClauses
import Derived.Test.YtbofgnihockpmaaAsgAll
namespace Go.Proofs.Ytbofgnihockpmaa
open Go.RowKit

def bitOf (n : Int) (k : Nat) : Int := bits BinOp.and IntKind.i64 (n / 2 ^ k) 1
def tgt (n : Int) (k : Nat) : Int := if (bitOf n k == 0) = true then 2 else 1
theorem tgt_two (n : Int) (k : Nat) : tgt n k = 1 ∨ tgt n k = 2 := by unfold tgt; split <;> simp

structure M1 (T : Nat → Int) (V : List Int) (k : Nat) : Prop where
  len : V.length = 13
  at' : ∀ i, V.getD i 0 = 0 ∨ (1 ≤ i ∧ i < k ∧ V.getD i 0 = T i)
structure M2 (T : Nat → Int) (V : List Int) (k : Nat) : Prop where
  len : V.length = 13
  zero : V.getD 0 0 = 0
  lo : ∀ i, 1 ≤ i → i < k → V.getD i 0 = T i
  hi : ∀ i, V.getD i 0 = 0 ∨ V.getD i 0 = T i

theorem M1.start (T : Nat → Int) : M1 T (newV 12) 1 := ⟨by decide, fun i => .inl (newV_get 12 i)⟩
theorem M1.skip {T : Nat → Int} {V : List Int} {k : Nat} (h : M1 T V k) : M1 T V (k + 1) := ⟨h.len, fun i => (h.at' i).imp id fun ⟨h1, h2, h3⟩ => ⟨h1, by omega, h3⟩⟩
theorem M1.set {T : Nat → Int} {V : List Int} {k : Nat} (h : M1 T V k) (h1 : 1 ≤ k) {x : Int} (hx : x = T k) : M1 T (V.set k x) (k + 1) := by
  refine ⟨by simpa using h.len, fun i => ?_⟩
  rw [getD_set]
  by_cases e : k = i ∧ i < V.length
  · rw [if_pos e, ← e.1]; exact .inr ⟨h1, by omega, hx⟩
  · rw [if_neg e]; exact h.skip.at' i
theorem M1.un {T : Nat → Int} {V : List Int} {k : Nat} (h : M1 T V k) : V.getD k 0 = 0 := by
  rcases h.at' k with e | ⟨_, h2, _⟩
  · exact e
  · omega
theorem M1.two {T : Nat → Int} {V : List Int} {k : Nat} (h : M1 T V k) (hz : V.getD 0 0 = 0) : M2 T V 1 :=
  ⟨h.len, hz, fun i h1 h2 => by omega, fun i => (h.at' i).imp id fun hh => hh.2.2⟩
theorem M2.set {T : Nat → Int} {V : List Int} {k : Nat} (h : M2 T V k) (h1 : 1 ≤ k) (h2 : k ≤ 12) {x : Int} (hx : x = T k) : M2 T (V.set k x) (k + 1) := by
  have hl := h.len
  refine ⟨by simpa using h.len, ?_, fun i hi1 hi2 => ?_, fun i => ?_⟩
  · rw [getD_set, if_neg (by omega)]; exact h.zero
  · rw [getD_set]
    by_cases e : k = i
    · rw [if_pos ⟨e, by omega⟩, hx, e]
    · rw [if_neg (fun hh => e hh.1)]; exact h.lo i hi1 (by omega)
  · rw [getD_set]
    split
    · rename_i hh; rw [← hh.1]; exact .inr hx
    · exact h.hi i

theorem set_val {V : List Int} {l : Int} (h1 : 1 ≤ plc l) (h2 : plc l < V.length) {x : Int} (hx : x = if 0 < l then 1 else 2) (hv : V.getD (plc l) 0 = 0 ∨ V.getD (plc l) 0 = x) :
    setOk V l = true ∧ setV V l = V.set (plc l) x ∧ setOk (V.set (plc l) x) (-l) = false ∧ setV (V.set (plc l) x) (-l) = V.set (plc l) x := by
  have hr : rightB V l = true := by rw [rightB_iff]; omega
  have hok : setOk V l = true := by
    unfold setOk
    rw [hr, valL_at rfl h1 h2]
    by_cases hp : 0 < l
    · rw [if_pos hp] at hx ⊢
      rcases hv with e | e <;> rw [e] <;> simp [hx]
    · rw [if_neg hp] at hx ⊢
      rcases hv with e | e <;> rw [e] <;> simp [hx, opp]
  have hno : setOk (V.set (plc l) x) (-l) = false := by
    unfold setOk
    rw [valL_set _ _ _ h1 h2, plc_negate, if_pos rfl, show rightB (V.set (plc l) x) (-l) = true by rw [rightB_iff, plc_negate]; simp; omega]
    by_cases hp : 0 < l
    · rw [if_pos hp] at hx; rw [if_neg (by omega), hx]; rfl
    · have : l ≠ 0 := fun e => by subst e; rw [plc_zero] at h1; omega
      rw [if_neg hp] at hx; rw [if_pos (by omega), hx]; rfl
  refine ⟨hok, ?_, hno, ?_⟩
  · unfold setV; rw [hok, hx]; rfl
  · show (if setOk (V.set (plc l) x) (-l) = true then _ else _) = _
    rw [hno]; rfl

theorem full_val {T : Nat → Int} {V : List Int} (hT : ∀ i, T i = 1 ∨ T i = 2) (h : M2 T V 13) {l : Int} (h1 : 1 ≤ plc l) (h2 : plc l ≤ 12) : valL V l = if holdsL (modelL V) l = true then 1 else 2 := by
  have hl := h.len
  have hml : (modelL V).length = 13 := by simp [modelL, hl]
  have ht := hT (plc l)
  unfold holdsL
  rw [valL_at rfl h1 (by omega), modelL_get, h.lo _ h1 (by omega), hml]
  have hd : (decide (1 ≤ plc l) && decide (plc l < 13)) = true := by simp; omega
  rw [hd]
  by_cases hp : 0 < l
  · rcases ht with e | e <;> rw [e] <;> simp [hp]
  · rcases ht with e | e <;> rw [e] <;> simp [hp, opp]
theorem full_clause {T : Nat → Int} {V : List Int} (hT : ∀ i, T i = 1 ∨ T i = 2) (h : M2 T V 13) {c : List Int} (hc : Lits12 c) : (clauseL V c).1 = if ofC (modelL V) c = true then 1 else 2 := by
  by_cases ho : ofC (modelL V) c = true
  · rw [if_pos ho]
    unfold ofC at ho
    obtain ⟨l, hl, hh⟩ := List.any_eq_true.1 ho
    rw [clauseL_true ⟨l, hl, by rw [full_val hT h (hc l hl).1 (hc l hl).2, if_pos hh]⟩]
  · rw [if_neg ho]
    refine clauseL_false fun l hl => ?_
    rw [full_val hT h (hc l hl).1 (hc l hl).2, if_neg]
    intro hh
    exact ho (List.any_eq_true.2 ⟨l, hl, hh⟩)
theorem anyIs_iff (V : List Int) (cs : List (List Int)) (x : Int) : anyIs V cs x = true ↔ ∃ c ∈ cs, (clauseL V c).1 = x := by unfold anyIs; simp
theorem full_all {T : Nat → Int} {V : List Int} (hT : ∀ i, T i = 1 ∨ T i = 2) (h : M2 T V 13) {cs : List (List Int)} (hc : ∀ c ∈ cs, Lits12 c) : allL V cs = if ofL cs (modelL V) = true then 1 else 2 := by
  have h0 : anyIs V cs 0 = false := by
    rw [← Bool.not_eq_true, anyIs_iff]
    rintro ⟨c, hm, e⟩
    rw [full_clause hT h (hc c hm)] at e
    split at e <;> omega
  unfold allL
  rw [h0]
  by_cases ho : ofL cs (modelL V) = true
  · rw [if_pos ho, if_neg]
    · rfl
    · rw [anyIs_iff]
      rintro ⟨c, hm, e⟩
      rw [full_clause hT h (hc c hm), if_pos (List.all_eq_true.1 ho c hm)] at e
      omega
  · rw [if_neg ho, if_pos]
    rw [anyIs_iff]
    have ho' : ofL cs (modelL V) = false := by simpa using ho
    unfold ofL at ho'
    obtain ⟨c, hm, hh⟩ := List.all_eq_false.1 ho'
    exact ⟨c, hm, by rw [full_clause hT h (hc c hm), if_neg hh]⟩
theorem clauseL_two {V c : List Int} (hV : Vals V) (h : (clauseL V c).1 = 2) : ∀ l ∈ c, valL V l = 2 := by
  unfold clauseL at h
  by_cases ht : hasTrue V c = true
  · rw [if_pos ht] at h; exact absurd h (by decide)
  · rw [if_neg ht] at h
    have ht' := (hasTrue_not V c).1 (by simpa using ht)
    rcases cinv_all V c with ⟨_, h2⟩ | ⟨h1, _⟩
    · intro l hl
      have := hV.val l
      have := h2 l hl
      have := ht' l hl
      omega
    · rw [h1] at h; exact absurd h (by decide)
theorem clauseL_hasTrue {V c : List Int} (h : (clauseL V c).1 = 1) : ∃ l ∈ c, valL V l = 1 := by
  unfold clauseL at h
  by_cases ht : hasTrue V c = true
  · exact (hasTrue_iff V c).1 ht
  · rw [if_neg ht] at h
    rcases cinv_all V c with ⟨e, _⟩ | ⟨h1, _⟩
    · rw [e] at h; exact absurd h (by decide)
    · rw [h1] at h; exact absurd h (by decide)
theorem more_val {T : Nat → Int} {V V2 : List Int} (h : M1 T V 13) (h2 : M2 T V2 13) {l : Int} (hl : valL V l ≠ 0) : valL V2 l = valL V l := by
  by_cases hr : rightB V l = true
  · have hr2 : rightB V2 l = true := by rw [rightB_iff, h2.len]; rw [rightB_iff, h.len] at hr; exact hr
    have hr' := (rightB_iff V l).1 hr
    have hv := valL_at (V := V) (l := l) rfl hr'.1 hr'.2
    rcases h.at' (plc l) with e | ⟨e1, e2, e3⟩
    · rw [e] at hv
      exact absurd (by rw [hv]; split <;> rfl) hl
    · rw [hv, valL_at rfl hr'.1 (by rw [h2.len]; omega), e3, h2.lo _ e1 e2]
  · exact absurd (valL_not (by simpa using hr)) hl
theorem more_all {T : Nat → Int} {V V2 : List Int} (hV : Vals V) (h : M1 T V 13) (h2 : M2 T V2 13) (cs : List (List Int)) : allL V cs = 0 ∨ allL V cs = allL V2 cs := by
  have k1 : ∀ c, (clauseL V c).1 = 1 → (clauseL V2 c).1 = 1 := fun c hc => by
    obtain ⟨l, hl, e⟩ := clauseL_hasTrue hc
    rw [clauseL_true ⟨l, hl, by rw [more_val h h2 (by omega), e]⟩]
  have k2 : ∀ c, (clauseL V c).1 = 2 → (clauseL V2 c).1 = 2 := fun c hc => by
    refine clauseL_false fun l hl => ?_
    have := clauseL_two hV hc l hl
    rw [more_val h h2 (by omega), this]
  by_cases a2 : anyIs V cs 2 = true
  · right
    have b2 : anyIs V2 cs 2 = true := by
      rw [anyIs_iff] at a2 ⊢
      obtain ⟨c, hm, e⟩ := a2
      exact ⟨c, hm, k2 c e⟩
    unfold allL
    rw [if_pos a2, if_pos b2]
  · by_cases a0 : anyIs V cs 0 = true
    · left
      unfold allL
      rw [if_neg a2, if_pos a0]
    · right
      have hall : ∀ c ∈ cs, (clauseL V2 c).1 = 1 := fun c hm => by
        refine k1 c ?_
        rw [anyIs_iff] at a2 a0
        rcases clauseL_three V c with e | e | e
        · exact absurd ⟨c, hm, e⟩ a0
        · exact e
        · exact absurd ⟨c, hm, e⟩ a2
      have b2 : ¬ anyIs V2 cs 2 = true := by
        rw [anyIs_iff]; rintro ⟨c, hm, e⟩; rw [hall c hm] at e; omega
      have b0 : ¬ anyIs V2 cs 0 = true := by
        rw [anyIs_iff]; rintro ⟨c, hm, e⟩; rw [hall c hm] at e; omega
      unfold allL
      rw [if_neg a2, if_neg a0, if_neg b2, if_neg b0]
theorem full_known {T : Nat → Int} {V : List Int} (hT : ∀ i, T i = 1 ∨ T i = 2) (h : M2 T V 13) : (knownL V).length = 12 := by
  have hk : ∀ k, k ≤ 12 → (knownTo V (k + 1)).length = k := by
    intro k
    induction k with
    | zero => intro _; rw [knownTo_succ, h.zero]; rfl
    | succ k ih =>
      intro hk
      rw [knownTo_succ, List.length_append, ih (by omega), h.lo (k + 1) (by omega) (by omega)]
      rcases hT (k + 1) with e | e <;> rw [e] <;> rfl
  unfold knownL
  rw [h.len]
  exact hk 12 (Nat.le_refl _)
end Go.Proofs.Ytbofgnihockpmaa
