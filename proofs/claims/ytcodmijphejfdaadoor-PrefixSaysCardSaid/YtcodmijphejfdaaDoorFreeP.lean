/- Plain facts: the variables of clauses that stand in no block, rising, each once ('freeL'); that sorted and cut they are just those. Nothing of the program. -/
import Derived.Test.YtcodmijphejfdaaDoorMrgP
import Derived.Lib.SlicesCompact
namespace Go.Proofs.YtcodmijphejfdaaDoor
open Go.Sort

def litsL (xss : List (List Int)) : List Int := xss.flatten.map absI
/-- One more in a rising list. -/
def insS (out : List Int) (v : Int) : List Int := out.takeWhile (fun x => decide (x < v)) ++ v :: out.dropWhile (fun x => decide (x < v))
def freeStep (bound out : List Int) (v : Int) : List Int := if bound.contains v || out.contains v then out else insS out v
def freeL (bs : List Blk) (xss : List (List Int)) : List Int := (litsL xss).foldl (freeStep (varsB bs)) []
/-- Those that stand in no block, as they come. -/
def candL (bs : List Blk) (xss : List (List Int)) : List Int := (litsL xss).filter fun v => !(varsB bs).contains v
def srtL (zs : List Int) : List Int := zs.mergeSort fun x y => decide (x ≤ y)

theorem insS_mem (out : List Int) (v x : Int) : x ∈ insS out v ↔ x ∈ out ∨ x = v := by
  unfold insS
  have h : x ∈ out ↔ x ∈ out.takeWhile (fun x => decide (x < v)) ∨ x ∈ out.dropWhile (fun x => decide (x < v)) := by
    rw [← List.mem_append, List.takeWhile_append_dropWhile]
  rw [List.mem_append, List.mem_cons, h]
  constructor
  · rintro (a | a | a)
    · exact .inl (.inl a)
    · exact .inr a
    · exact .inl (.inr a)
  · rintro ((a | a) | a)
    · exact .inl a
    · exact .inr (.inr a)
    · exact .inr (.inl a)
theorem take_lt (v : Int) : ∀ (out : List Int), ∀ x ∈ out.takeWhile (fun x => decide (x < v)), x < v
  | [], x, h => by simp at h
  | a :: out, x, h => by
    rw [List.takeWhile_cons] at h
    split at h
    · rename_i ha
      rcases List.mem_cons.1 h with rfl | h
      · simpa using ha
      · exact take_lt v out x h
    · simp at h
theorem drop_ge (v : Int) : ∀ (out : List Int), out.Pairwise (· < ·) → v ∉ out → ∀ x ∈ out.dropWhile (fun x => decide (x < v)), v < x
  | [], _, _, x, h => by simp at h
  | a :: out, hp, hv, x, h => by
    rw [List.pairwise_cons] at hp
    rw [List.dropWhile_cons] at h
    split at h
    · exact drop_ge v out hp.2 (fun hm => hv (List.mem_cons_of_mem _ hm)) x h
    · rename_i ha
      have ha' : ¬ a < v := by simpa using ha
      have hne : v ≠ a := fun e => hv (by rw [e]; simp)
      rcases List.mem_cons.1 h with rfl | h
      · omega
      · have := hp.1 x h
        omega
theorem insS_sorted (out : List Int) (v : Int) (hp : out.Pairwise (· < ·)) (hv : v ∉ out) : (insS out v).Pairwise (· < ·) := by
  unfold insS
  have hs : (out.takeWhile (fun x => decide (x < v)) ++ out.dropWhile (fun x => decide (x < v))).Pairwise (· < ·) := by
    rw [List.takeWhile_append_dropWhile]; exact hp
  rw [List.pairwise_append] at hs
  rw [List.pairwise_append, List.pairwise_cons]
  refine ⟨hs.1, ⟨fun b hb => drop_ge v out hp hv b hb, hs.2.1⟩, fun a ha b hb => ?_⟩
  rcases List.mem_cons.1 hb with rfl | hb
  · exact take_lt b out a ha
  · exact hs.2.2 a ha b hb
theorem insS_len (out : List Int) (v : Int) : (insS out v).length = out.length + 1 := by
  unfold insS
  have := congrArg List.length (List.takeWhile_append_dropWhile (p := fun x => decide (x < v)) (l := out))
  rw [List.length_append] at this
  rw [List.length_append, List.length_cons]
  omega
theorem freeStep_spec (bound : List Int) : ∀ (vs out : List Int), out.Pairwise (· < ·) → (vs.foldl (freeStep bound) out).Pairwise (· < ·) ∧ (∀ x, x ∈ vs.foldl (freeStep bound) out ↔ x ∈ out ∨ (x ∈ vs ∧ x ∉ bound)) ∨ ∃ x ∈ out, x ∈ bound
  | [], out, hp => .inl ⟨hp, fun x => by simp⟩
  | v :: vs, out, hp => by
    by_cases hx : ∃ x ∈ out, x ∈ bound
    · exact .inr hx
    · left
      rw [List.foldl_cons]
      by_cases hb : v ∈ bound
      · have e : freeStep bound out v = out := by unfold freeStep; rw [if_pos (by simp [hb])]
        rw [e]
        obtain ⟨h1, h2⟩ := (freeStep_spec bound vs out hp).resolve_right hx
        refine ⟨h1, fun x => ?_⟩
        rw [h2 x, List.mem_cons]
        constructor
        · rintro (a | ⟨a, b⟩)
          · exact .inl a
          · exact .inr ⟨.inr a, b⟩
        · rintro (a | ⟨rfl | a, b⟩)
          · exact .inl a
          · exact absurd hb b
          · exact .inr ⟨a, b⟩
      · by_cases ho : v ∈ out
        · have e : freeStep bound out v = out := by unfold freeStep; rw [if_pos (by simp [ho])]
          rw [e]
          obtain ⟨h1, h2⟩ := (freeStep_spec bound vs out hp).resolve_right hx
          refine ⟨h1, fun x => ?_⟩
          rw [h2 x, List.mem_cons]
          constructor
          · rintro (a | ⟨a, b⟩)
            · exact .inl a
            · exact .inr ⟨.inr a, b⟩
          · rintro (a | ⟨rfl | a, b⟩)
            · exact .inl a
            · exact .inl ho
            · exact .inr ⟨a, b⟩
        · have e : freeStep bound out v = insS out v := by unfold freeStep; rw [if_neg (by simp [hb, ho])]
          rw [e]
          have hx' : ¬ ∃ x ∈ insS out v, x ∈ bound := by
            rintro ⟨x, h1, h2⟩
            rcases (insS_mem out v x).1 h1 with h | rfl
            · exact hx ⟨x, h, h2⟩
            · exact hb h2
          obtain ⟨h1, h2⟩ := (freeStep_spec bound vs _ (insS_sorted out v hp ho)).resolve_right hx'
          refine ⟨h1, fun x => ?_⟩
          rw [h2 x, insS_mem, List.mem_cons]
          constructor
          · rintro ((a | rfl) | ⟨a, b⟩)
            · exact .inl a
            · exact .inr ⟨.inl rfl, hb⟩
            · exact .inr ⟨.inr a, b⟩
          · rintro (a | ⟨rfl | a, b⟩)
            · exact .inl (.inl a)
            · exact .inl (.inr rfl)
            · exact .inr ⟨a, b⟩
theorem free_spec (bs : List Blk) (xss : List (List Int)) : (freeL bs xss).Pairwise (· < ·) ∧ ∀ x, x ∈ freeL bs xss ↔ x ∈ litsL xss ∧ x ∉ varsB bs := by
  obtain ⟨h1, h2⟩ := (freeStep_spec (varsB bs) (litsL xss) [] List.Pairwise.nil).resolve_right (by rintro ⟨x, h, _⟩; simp at h)
  exact ⟨h1, fun x => by rw [freeL, h2 x]; simp⟩
theorem foldl_len (bound : List Int) : ∀ (vs out : List Int), (vs.foldl (freeStep bound) out).length ≤ out.length + vs.length
  | [], out => by simp
  | v :: vs, out => by
    rw [List.foldl_cons]
    have h := foldl_len bound vs (freeStep bound out v)
    have : (freeStep bound out v).length ≤ out.length + 1 := by
      unfold freeStep
      split
      · omega
      · rw [insS_len]; omega
    simp only [List.length_cons]
    omega
theorem free_len (bs : List Blk) (xss : List (List Int)) : (freeL bs xss).length ≤ xss.flatten.length := by
  have := foldl_len (varsB bs) (litsL xss) []
  have h2 : (litsL xss).length = xss.flatten.length := by unfold litsL; rw [List.length_map]
  rw [h2] at this
  unfold freeL
  simpa only [List.length_nil, Nat.zero_add] using this

theorem lt_unique : ∀ l1 l2 : List Int, l1.Pairwise (· < ·) → l2.Pairwise (· < ·) → (∀ x, x ∈ l1 ↔ x ∈ l2) → l1 = l2
  | [], [], _, _, _ => rfl
  | [], b :: l2, _, _, h => by have := (h b).2 (by simp); simp at this
  | a :: l1, [], _, _, h => by have := (h a).1 (by simp); simp at this
  | a :: l1, b :: l2, h1, h2, h => by
    rw [List.pairwise_cons] at h1 h2
    have hab : a = b := by
      have ha := (h a).1 (by simp)
      have hb := (h b).2 (by simp)
      simp only [List.mem_cons] at ha hb
      rcases ha with ha | ha
      · exact ha
      · rcases hb with hb | hb
        · exact hb.symm
        · have := h1.1 b hb
          have := h2.1 a ha
          omega
    subst hab
    congr 1
    refine lt_unique l1 l2 h1.2 h2.2 fun x => ?_
    have hx := h x
    simp only [List.mem_cons] at hx
    constructor
    · intro hm
      rcases hx.1 (.inr hm) with e | e
      · subst e; have := h1.1 x hm; omega
      · exact e
    · intro hm
      rcases hx.2 (.inr hm) with e | e
      · subst e; have := h2.1 x hm; omega
      · exact e
theorem compactI_spec (d : Array Int) (hs : ∀ i j, i ≤ j → j < d.size → d[i]! ≤ d[j]!) : ∀ m, m ≤ d.size → (Lib.compactUpTo d m).Pairwise (· < ·) ∧ ∀ x, x ∈ Lib.compactUpTo d m ↔ ∃ j, j < m ∧ d[j]! = x
  | 0, _ => by simp [Lib.compactUpTo]
  | m + 1, hm => by
    obtain ⟨h1, h2⟩ := compactI_spec d hs m (by omega)
    rw [Lib.compactUpTo_succ]
    by_cases hk : Lib.keeps d m = true
    · rw [if_pos hk]
      refine ⟨?_, fun x => ?_⟩
      · rw [List.pairwise_append]
        refine ⟨h1, by simp, fun a ha b hb => ?_⟩
        simp at hb
        subst hb
        obtain ⟨j, hj, rfl⟩ := (h2 a).1 ha
        have hne : d[m]! ≠ d[m - 1]! := by
          simp [Lib.keeps] at hk
          rcases hk with hk | hk
          · omega
          · simpa using hk
        have e1 := hs j (m - 1) (by omega) (by omega)
        have e2 := hs (m - 1) m (by omega) (by omega)
        omega
      · rw [List.mem_append, h2 x]
        constructor
        · rintro (⟨j, hj, e⟩ | h)
          · exact ⟨j, by omega, e⟩
          · simp at h; exact ⟨m, by omega, by simp [h]⟩
        · rintro ⟨j, hj, e⟩
          by_cases ej : j = m
          · subst ej; right; simp [← e]
          · left; exact ⟨j, by omega, e⟩
    · rw [if_neg hk]
      refine ⟨by simpa using h1, fun x => ?_⟩
      rw [List.append_nil, h2 x]
      have hk2 : 0 < m ∧ d[m]! = d[m - 1]! := by
        simp only [Lib.keeps, decide_eq_true_eq] at hk
        refine ⟨Nat.pos_of_ne_zero fun e => hk (.inl e), ?_⟩
        exact Classical.byContradiction fun e => hk (.inr e)
      constructor
      · rintro ⟨j, hj, e⟩; exact ⟨j, by omega, e⟩
      · rintro ⟨j, hj, e⟩
        by_cases ej : j = m
        · subst ej; exact ⟨j - 1, by omega, by rw [← e, hk2.2]⟩
        · exact ⟨j, by omega, e⟩
theorem getBI (l : List Int) (i : Nat) (h : i < l.length) : l.toArray[i]! = l[i] := by simp [getElem!_pos, h]
theorem srt_sorted (zs : List Int) : (srtL zs).Pairwise (· ≤ ·) := by
  have h := List.pairwise_mergeSort (le := fun x y : Int => decide (x ≤ y)) (fun a b c h1 h2 => by simp at *; omega) (fun a b => by simp; omega) zs
  exact h.imp fun {a b} hab => by simpa using hab
theorem srt_mem (zs : List Int) (x : Int) : x ∈ srtL zs ↔ x ∈ zs := (List.mergeSort_perm zs _).mem_iff
theorem srt_len (zs : List Int) : (srtL zs).length = zs.length := by simp [srtL]
/-- Sorted and cut: the free ones. -/
theorem free_eq (bs : List Blk) (xss : List (List Int)) : Lib.compact (srtL (candL bs xss)) = freeL bs xss := by
  have hp := srt_sorted (candL bs xss)
  have hs : ∀ i j, i ≤ j → j < (srtL (candL bs xss)).toArray.size → (srtL (candL bs xss)).toArray[i]! ≤ (srtL (candL bs xss)).toArray[j]! := by
    intro i j hij hj
    have hj' : j < (srtL (candL bs xss)).length := by simpa using hj
    rw [getBI _ i (by omega), getBI _ j hj']
    by_cases e : i = j
    · subst e; exact Int.le_refl _
    · exact List.pairwise_iff_getElem.1 hp i j (by omega) hj' (by omega)
  obtain ⟨h1, h2⟩ := compactI_spec (srtL (candL bs xss)).toArray hs (srtL (candL bs xss)).length (by simp)
  obtain ⟨g1, g2⟩ := free_spec bs xss
  refine lt_unique _ _ h1 g1 fun x => ?_
  rw [g2 x]
  have hm : x ∈ candL bs xss ↔ x ∈ litsL xss ∧ x ∉ varsB bs := by
    unfold candL
    rw [List.mem_filter]
    simp
  rw [← hm, ← srt_mem (candL bs xss) x]
  refine (h2 x).trans ?_
  constructor
  · rintro ⟨j, hj, e⟩; rw [getBI _ j hj] at e; rw [← e]; exact List.getElem_mem hj
  · intro h; obtain ⟨j, hj, e⟩ := List.getElem_of_mem h; exact ⟨j, hj, by rw [getBI _ j hj]; exact e⟩
end Go.Proofs.YtcodmijphejfdaaDoor
