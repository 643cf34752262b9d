/- Plain functions of chapter 14: a heap as its scores and who is in it; what each call makes of it and answers. Holds for all ints and lists; no conditions beyond those typed. -/
import Derived.Test.YteiidcogjmekhaaBase
namespace Go.Proofs.Yteiidcogjmekhaa
open Go.RowKit

/-- Scores, and who is in; place 0 is nobody's. -/
structure Hp where
  ss : List Int
  ins : List Bool
structure HpW (h : Hp) : Prop where
  pos : 0 < h.ss.length
  len : h.ins.length = h.ss.length
  top : h.ss.length ≤ 61
  s0 : h.ss.getD 0 0 = 0
  i0 : h.ins.getD 0 false = false
  bd : ∀ v, 0 ≤ h.ss.getD v 0 ∧ h.ss.getD v 0 ≤ 1099511627776
def isH (h : Hp) (v : Int) : Bool := decide (0 < v) && decide (v < (h.ss.length : Int))
def hasH (h : Hp) (v : Int) : Bool := isH h v && h.ins.getD v.toNat false
def scoreH (h : Hp) (v : Int) : Int := if isH h v = true then h.ss.getD v.toNat 0 else 0
def manyH (h : Hp) : Nat := h.ins.count true
def pushOk (h : Hp) (v : Int) : Bool := isH h v && !h.ins.getD v.toNat false
def pushH (h : Hp) (v : Int) : Hp := if pushOk h v = true then ⟨h.ss, h.ins.set v.toNat true⟩ else h
def bumpI (s by' : Int) : Int := max 0 (min (s + by') 1099511627776)
def bumpH (h : Hp) (v by' : Int) : Hp := if isH h v = true then ⟨h.ss.set v.toNat (bumpI (h.ss.getD v.toNat 0) by'), h.ins⟩ else h
def bumpA (h : Hp) (v by' : Int) : Int := if isH h v = true then bumpI (h.ss.getD v.toNat 0) by' else 0
def halveH (h : Hp) : Hp := ⟨h.ss.map (· / 2), h.ins⟩
def growH (h : Hp) (n : Int) : Hp := ⟨h.ss ++ List.replicate (n.toNat + 1 - h.ss.length) 0, h.ins ++ List.replicate (n.toNat + 1 - h.ss.length) true⟩
def newH (n : Int) : Hp := growH ⟨[0], [false]⟩ n
/-- Of those in it the greatest score, and whose it is, looked at one by one. -/
def bestK (ss : List Int) (ins : List Bool) : Nat → Int × List Int
  | 0 => (-1, [])
  | k + 1 =>
    if ins.getD k false = false ∨ ss.getD k 0 < (bestK ss ins k).1 then bestK ss ins k
    else if (bestK ss ins k).1 < ss.getD k 0 then (ss.getD k 0, [(k : Int)])
    else (ss.getD k 0, (bestK ss ins k).2 ++ [(k : Int)])
def bestL (h : Hp) : List Int := (bestK h.ss h.ins h.ss.length).2
def popV (h : Hp) (tie : Int) : Int := if bestL h = [] then 0 else (bestL h).getD (tie % ((bestL h).length : Int)).toNat 0
def popB (h : Hp) : Bool := !decide (bestL h = [])
def popH (h : Hp) (tie : Int) : Hp := if bestL h = [] then h else ⟨h.ss, h.ins.set (popV h tie).toNat false⟩

/-! ### The best, said at once -/
def candP (ss : List Int) (ins : List Bool) (s : Int) (v : Nat) : Bool := ins.getD v false && decide (ss.getD v 0 = s)
def candL (ss : List Int) (ins : List Bool) (s : Int) (k : Nat) : List Int := ((List.range k).filter (candP ss ins s)).map Int.ofNat
theorem candL_succ (ss : List Int) (ins : List Bool) (s : Int) (k : Nat) : candL ss ins s (k + 1) = candL ss ins s k ++ (if candP ss ins s k = true then [(k : Int)] else []) := by
  unfold candL
  rw [List.range_succ, List.filter_append, List.map_append]
  congr 1
  by_cases h : candP ss ins s k = true
  · simp [h]
  · simp [h]
theorem candL_nil {ss : List Int} {ins : List Bool} {s : Int} {k : Nat} (h : ∀ v, v < k → ins.getD v false = true → ss.getD v 0 ≠ s) : candL ss ins s k = [] := by
  unfold candL
  rw [List.map_eq_nil_iff, List.filter_eq_nil_iff]
  intro v hv hc
  unfold candP at hc
  rw [Bool.and_eq_true] at hc
  exact h v (List.mem_range.1 hv) hc.1 (of_decide_eq_true hc.2)
theorem mem_candL {ss : List Int} {ins : List Bool} {s : Int} {k : Nat} {x : Int} : x ∈ candL ss ins s k ↔ ∃ v : Nat, x = (v : Int) ∧ v < k ∧ ins.getD v false = true ∧ ss.getD v 0 = s := by
  unfold candL
  rw [List.mem_map]
  constructor
  · rintro ⟨v, hv, rfl⟩
    rw [List.mem_filter, List.mem_range] at hv
    unfold candP at hv
    rw [Bool.and_eq_true] at hv
    exact ⟨v, rfl, hv.1, hv.2.1, of_decide_eq_true hv.2.2⟩
  · rintro ⟨v, rfl, h1, h2, h3⟩
    refine ⟨v, ?_, rfl⟩
    rw [List.mem_filter, List.mem_range]
    unfold candP
    rw [h2, h3]
    exact ⟨h1, by simp⟩
/-- What the going through has found. -/
structure BestOf (ss : List Int) (ins : List Bool) (k : Nat) (r : Int × List Int) : Prop where
  le : ∀ v, v < k → ins.getD v false = true → ss.getD v 0 ≤ r.1
  lst : r.2 = candL ss ins r.1 k
  low : -1 ≤ r.1
  emp : r.2 = [] → r.1 = -1
theorem best_of {ss : List Int} {ins : List Bool} (hs : ∀ v, 0 ≤ ss.getD v 0) : ∀ k, BestOf ss ins k (bestK ss ins k)
  | 0 => ⟨fun v h => absurd h (Nat.not_lt_zero _), rfl, Int.le_refl _, fun _ => rfl⟩
  | k + 1 => by
    have ih := best_of hs (ins := ins) k
    unfold bestK
    generalize bestK ss ins k = r at ih
    obtain ⟨b, l⟩ := r
    obtain ⟨h1, h2, h3, h4⟩ := ih
    simp only at h1 h2 h3 h4 ⊢
    have hk := hs k
    split
    · rename_i hc
      refine ⟨fun v hv hi => ?_, ?_, h3, h4⟩
      · by_cases e : v = k
        · subst e
          rcases hc with hc | hc
          · rw [hc] at hi; cases hi
          · exact Int.le_of_lt hc
        · exact h1 v (by omega) hi
      · show l = _
        rw [candL_succ, h2, if_neg, List.append_nil]
        unfold candP
        rcases hc with hc | hc
        · rw [hc]; simp
        · rw [Bool.and_eq_true]
          rintro ⟨_, e⟩
          have := of_decide_eq_true e
          omega
    · rename_i hc
      rw [not_or] at hc
      obtain ⟨hc1, hc2⟩ := hc
      have hin : ins.getD k false = true := by simpa using hc1
      have hcp : candP ss ins (ss.getD k 0) k = true := by unfold candP; rw [hin]; simp
      split
      · rename_i hlt
        refine ⟨fun v hv hi => ?_, ?_, by show -1 ≤ ss.getD k 0; omega, fun h => by cases h⟩
        · show ss.getD v 0 ≤ ss.getD k 0
          by_cases e : v = k
          · subst e; exact Int.le_refl _
          · have := h1 v (by omega) hi; omega
        · show [(k : Int)] = _
          rw [candL_succ, if_pos hcp, candL_nil (fun v hv hi => by have := h1 v hv hi; omega)]
          rfl
      · rename_i hlt
        have he : ss.getD k 0 = b := by omega
        refine ⟨fun v hv hi => ?_, ?_, by show -1 ≤ ss.getD k 0; omega, fun h => by simp at h⟩
        · show ss.getD v 0 ≤ ss.getD k 0
          by_cases e : v = k
          · subst e; exact Int.le_refl _
          · have := h1 v (by omega) hi; omega
        · show l ++ [(k : Int)] = _
          rw [candL_succ, if_pos hcp, h2, he]
/-- Whatever is the greatest score of those in it is the one found. -/
theorem best_eq {ss : List Int} {ins : List Bool} {k : Nat} {s : Int} (hs : ∀ v, 0 ≤ ss.getD v 0) (h1 : ∀ v, v < k → ins.getD v false = true → ss.getD v 0 ≤ s) (h2 : candL ss ins s k ≠ []) : bestK ss ins k = (s, candL ss ins s k) := by
  have hb := best_of hs (ins := ins) k
  generalize bestK ss ins k = r at hb
  obtain ⟨b, l⟩ := r
  obtain ⟨k1, k2, k3, k4⟩ := hb
  simp only at k1 k2 k3 k4
  obtain ⟨x, hx⟩ := List.exists_mem_of_ne_nil _ h2
  obtain ⟨v, _, hv, hi, e⟩ := mem_candL.1 hx
  have h3 := k1 v hv hi
  have hl : l ≠ [] := fun e' => by have := k4 e'; have := hs v; omega
  rw [k2] at hl
  obtain ⟨y, hy⟩ := List.exists_mem_of_ne_nil _ hl
  obtain ⟨u, _, hu, hj, e2⟩ := mem_candL.1 hy
  have h4 := h1 u hu hj
  have : b = s := by omega
  rw [k2, this]
theorem best_none {ss : List Int} {ins : List Bool} {k : Nat} (h : ∀ v, v < k → ins.getD v false = false) : bestK ss ins k = (-1, []) := by
  induction k with
  | zero => rfl
  | succ k ih =>
    unfold bestK
    rw [ih (fun v hv => h v (by omega)), if_pos (.inl (h k (Nat.lt_succ_self _)))]
theorem mem_bestL {h : Hp} (hw : HpW h) {x : Int} (hx : x ∈ bestL h) : ∃ v : Nat, x = (v : Int) ∧ 1 ≤ v ∧ v < h.ss.length ∧ h.ins.getD v false = true ∧ h.ss.getD v 0 = (bestK h.ss h.ins h.ss.length).1 := by
  unfold bestL at hx
  rw [(best_of (fun v => (hw.bd v).1) _).lst] at hx
  obtain ⟨v, e, h1, h2, h3⟩ := mem_candL.1 hx
  refine ⟨v, e, ?_, h1, h2, h3⟩
  by_cases h0 : v = 0
  · subst h0; rw [hw.i0] at h2; cases h2
  · omega
theorem pop_mem {h : Hp} (hn : bestL h ≠ []) (tie : Int) : popV h tie ∈ bestL h := by
  unfold popV
  rw [if_neg hn]
  have hl : 0 < (bestL h).length := List.length_pos_iff.2 hn
  have h1 := Int.emod_nonneg tie (show ((bestL h).length : Int) ≠ 0 by omega)
  have h2 := Int.emod_lt_of_pos tie (show (0 : Int) < (bestL h).length by omega)
  have h3 : (tie % ((bestL h).length : Int)).toNat < (bestL h).length := by omega
  simp only [List.getD, List.getElem?_eq_getElem h3, Option.getD_some]
  exact List.getElem_mem h3
theorem pop_at {h : Hp} (hw : HpW h) (hn : bestL h ≠ []) (tie : Int) : ∃ v : Nat, popV h tie = (v : Int) ∧ 1 ≤ v ∧ v < h.ss.length ∧ h.ins.getD v false = true ∧ h.ss.getD v 0 = (bestK h.ss h.ins h.ss.length).1 := mem_bestL hw (pop_mem hn tie)
theorem pop_le {h : Hp} (hw : HpW h) {v : Nat} (hi : h.ins.getD v false = true) : h.ss.getD v 0 ≤ (bestK h.ss h.ins h.ss.length).1 := by
  have hv : v < h.ss.length := by
    rw [← hw.len]
    rcases Nat.lt_or_ge v h.ins.length with h' | h'
    · exact h'
    · simp [List.getD, List.getElem?_eq_none h'] at hi
  exact (best_of (fun v => (hw.bd v).1) _).le v hv hi
theorem best_emp {h : Hp} (hw : HpW h) : bestL h = [] ↔ ∀ v, h.ins.getD v false = false := by
  have hb := best_of (ss := h.ss) (ins := h.ins) (fun v => (hw.bd v).1) h.ss.length
  constructor
  · intro e v
    rcases Bool.eq_false_or_eq_true (h.ins.getD v false) with h' | h'
    · have := pop_le hw h'
      have hm := hb.emp e
      have := (hw.bd v).1
      omega
    · exact h'
  · intro e
    unfold bestL
    rw [best_none (fun v _ => e v)]
theorem count_zero {l : List Bool} : l.count true = 0 ↔ ∀ v, l.getD v false = false := by
  rw [List.count_eq_zero]
  constructor
  · intro h v
    rcases Nat.lt_or_ge v l.length with hv | hv
    · simp only [List.getD, List.getElem?_eq_getElem hv, Option.getD_some]
      rcases Bool.eq_false_or_eq_true l[v] with h' | h'
      · exact absurd (h' ▸ List.getElem_mem hv) h
      · exact h'
    · simp [List.getD, List.getElem?_eq_none hv]
  · intro h hm
    obtain ⟨v, hv, e⟩ := List.getElem_of_mem hm
    have := h v
    simp only [List.getD, List.getElem?_eq_getElem hv, Option.getD_some, e] at this
    cases this

/-! ### What is kept -/
theorem getD_setI {α : Type} {d : α} (V : List α) (m : Nat) (x : α) (i : Nat) : (V.set m x).getD i d = if m = i ∧ i < V.length then x else V.getD i d := by
  simp only [List.getD, List.getElem?_set]
  by_cases h1 : m = i
  · subst h1
    by_cases h2 : m < V.length
    · simp [h2]
    · simp [h2]
  · simp [h1]
theorem isH_iff {h : Hp} {v : Int} : isH h v = true ↔ 0 < v ∧ v < (h.ss.length : Int) := by unfold isH; simp
theorem bumpI_bd (s x : Int) : 0 ≤ bumpI s x ∧ bumpI s x ≤ 1099511627776 := by unfold bumpI; omega
theorem HpW.put {h : Hp} (hw : HpW h) (v : Nat) (hv : 1 ≤ v) (b : Bool) : HpW ⟨h.ss, h.ins.set v b⟩ where
  pos := hw.pos
  len := by simpa using hw.len
  top := hw.top
  s0 := hw.s0
  i0 := by rw [getD_setI, if_neg (by omega)]; exact hw.i0
  bd := hw.bd
theorem HpW.score {h : Hp} (hw : HpW h) (v : Nat) (hv : 1 ≤ v) (x : Int) (hx : 0 ≤ x ∧ x ≤ 1099511627776) : HpW ⟨h.ss.set v x, h.ins⟩ where
  pos := by simpa using hw.pos
  len := by simpa using hw.len
  top := by simpa using hw.top
  s0 := by rw [getD_setI, if_neg (by omega)]; exact hw.s0
  i0 := hw.i0
  bd := fun u => by
    rw [getD_setI]
    split
    · exact hx
    · exact hw.bd u
theorem HpW.push {h : Hp} (hw : HpW h) (v : Int) : HpW (pushH h v) := by
  unfold pushH
  split
  · rename_i hc
    unfold pushOk at hc
    rw [Bool.and_eq_true, isH_iff] at hc
    exact hw.put _ (by omega) true
  · exact hw
theorem HpW.pop {h : Hp} (hw : HpW h) (tie : Int) : HpW (popH h tie) := by
  unfold popH
  split
  · exact hw
  · rename_i hn
    obtain ⟨v, e, h1, _⟩ := pop_at hw hn tie
    rw [e]
    exact hw.put _ (by simpa using h1) false
theorem HpW.bump {h : Hp} (hw : HpW h) (v x : Int) : HpW (bumpH h v x) := by
  unfold bumpH
  split
  · rename_i hc
    rw [isH_iff] at hc
    exact hw.score _ (by omega) _ (bumpI_bd _ _)
  · exact hw
theorem getD_half (l : List Int) (v : Nat) : (l.map (· / 2)).getD v 0 = l.getD v 0 / 2 := by
  simp only [List.getD, List.getElem?_map]
  cases l[v]? <;> rfl
theorem HpW.halve {h : Hp} (hw : HpW h) : HpW (halveH h) where
  pos := by simpa [halveH] using hw.pos
  len := by simpa [halveH] using hw.len
  top := by simpa [halveH] using hw.top
  s0 := by show (h.ss.map (· / 2)).getD 0 0 = 0; rw [getD_half, hw.s0]; rfl
  i0 := hw.i0
  bd := fun v => by
    show 0 ≤ (h.ss.map (· / 2)).getD v 0 ∧ (h.ss.map (· / 2)).getD v 0 ≤ _
    rw [getD_half]
    have := hw.bd v
    omega
theorem getD_grow {α : Type} {d e : α} (l : List α) (k v : Nat) : (l ++ List.replicate k e).getD v d = if v < l.length then l.getD v d else if v < l.length + k then e else d := by
  simp only [List.getD, List.getElem?_append]
  by_cases h : v < l.length
  · simp [h]
  · rw [if_neg h, if_neg h]
    by_cases h2 : v < l.length + k
    · rw [if_pos h2, List.getElem?_replicate, if_pos (by omega)]; rfl
    · rw [if_neg h2, List.getElem?_replicate, if_neg (by omega)]; rfl
theorem HpW.grow {h : Hp} (hw : HpW h) (n : Int) (hn : n ≤ 60) : HpW (growH h n) where
  pos := by have := hw.pos; simp [growH]; omega
  len := by have := hw.len; simp [growH]; omega
  top := by have := hw.top; simp [growH]; omega
  s0 := by
    show (h.ss ++ _).getD 0 0 = 0
    rw [getD_grow, if_pos hw.pos]; exact hw.s0
  i0 := by
    show (h.ins ++ _).getD 0 false = false
    rw [getD_grow, if_pos (by have := hw.pos; have := hw.len; omega)]; exact hw.i0
  bd := fun v => by
    show 0 ≤ (h.ss ++ _).getD v 0 ∧ (h.ss ++ _).getD v 0 ≤ _
    rw [getD_grow]
    split
    · exact hw.bd v
    · split <;> omega
theorem hpw_one : HpW ⟨[0], [false]⟩ := ⟨by decide, rfl, by decide, rfl, rfl, fun v => by match v with | 0 => exact ⟨by decide, by decide⟩ | v + 1 => exact ⟨by simp, by simp⟩⟩
theorem HpW.new (n : Int) (hn : n ≤ 60) : HpW (newH n) := hpw_one.grow n hn
end Go.Proofs.Yteiidcogjmekhaa
