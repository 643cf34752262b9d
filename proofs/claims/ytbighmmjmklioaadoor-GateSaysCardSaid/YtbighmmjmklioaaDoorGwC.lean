/- Clauses as a circuit, as plain data: worth what the clauses are. Plain facts on ints and lists; no conditions beyond those typed. -/
import Derived.Test.YtbighmmjmklioaaDoorGwP
namespace Go.Proofs.YtbighmmjmklioaaDoor

/-- A clause's literal, true by these inputs. -/
def litW (ins : List Bool) (l : Int) : Bool := ins.getD (l.natAbs - 1) false != decide (l < 0)
def LitsIn (n : Nat) (cs : List (List Int)) : Prop := ∀ c ∈ cs, ∀ l ∈ c, l ≠ 0 ∧ l.natAbs ≤ n
def sumL (cs : List (List Int)) : Nat := (cs.map List.length).sum
theorem litI_isB {g : Gr} {l : Int} (_h0 : l ≠ 0) (h1 : l.natAbs ≤ g.n) : g.isB (litI l) = true := by
  have hn : g.n ≤ g.len := by unfold Gr.len; omega
  unfold litI
  by_cases h : l < 0
  · rw [if_pos h]
    refine isB_not ?_
    rw [isB_iff]; omega
  · rw [if_neg h, isB_iff]; omega
theorem litI_bd {n : Nat} {l : Int} (_h0 : l ≠ 0) (h1 : l.natAbs ≤ n) : 0 ≤ litI l ∧ litI l ≤ 2 * (n : Int) + 1 := by
  unfold litI
  by_cases h : l < 0
  · rw [if_pos h]
    have := notI_of (2 * (-l)) (by omega)
    omega
  · rw [if_neg h]; omega
theorem litI_val {g : Gr} (ins : List Bool) {l : Int} (h0 : l ≠ 0) (h1 : l.natAbs ≤ g.n) : g.val ins (litI l) = litW ins l := by
  have hn : g.n ≤ g.len := by unfold Gr.len; omega
  have hv := val_input g ins (l.natAbs - 1) (by omega)
  unfold litI litW
  by_cases h : l < 0
  · have e : 2 * (-l) = 2 * (((l.natAbs - 1 : Nat) : Int) + 1) := by omega
    rw [if_pos h, decide_eq_true h, e, val_not, hv]
    · simp
    · rw [isB_iff]; omega
  · have e : 2 * l = 2 * (((l.natAbs - 1 : Nat) : Int) + 1) := by omega
    rw [if_neg h, decide_eq_false h, e, hv]
    simp
theorem clsG_take (g : Gr) (cs : List (List Int)) (k : Nat) (h : k < cs.length) : clsG g (cs.take (k + 1)) = stepCl (clsG g (cs.take k)) (cs.getD k []) := by
  unfold clsG
  rw [show cs.take (k + 1) = cs.take k ++ [cs.getD k []] by rw [List.take_succ_eq_append_getElem h]; simp [List.getD, h], List.foldl_append]
  rfl
theorem sumL_take (cs : List (List Int)) (k : Nat) (h : k < cs.length) : sumL (cs.take (k + 1)) = sumL (cs.take k) + (cs.getD k []).length := by
  unfold sumL
  rw [show cs.take (k + 1) = cs.take k ++ [cs.getD k []] by rw [List.take_succ_eq_append_getElem h]; simp [List.getD, h], List.map_append, List.sum_append]
  simp
theorem sumL_le (cs : List (List Int)) (k : Nat) : sumL (cs.take k) ≤ sumL cs := by
  have : sumL cs = sumL (cs.take k) + sumL (cs.drop k) := by
    unfold sumL
    rw [← List.sum_append, ← List.map_append, List.take_append_drop]
  omega
structure ClsOk (g : Gr) (m : Nat) (cs : List (List Int)) (s : Gr × List Int) : Prop where
  ext : Ext g s.1
  fine : s.1.Fine
  len : s.1.len ≤ g.len + m
  by_ : s.2.length = cs.length
  lit : ∀ x ∈ s.2, s.1.isB x = true
  val : ∀ ins, s.2.map (s.1.val ins) = cs.map fun c => c.any (litW ins)
theorem any_congr {α : Type} {f h : α → Bool} : ∀ {l : List α}, (∀ x ∈ l, f x = h x) → l.any f = l.any h
  | [], _ => rfl
  | x :: l, hh => by
    rw [List.any_cons, List.any_cons, hh x (by simp), any_congr (l := l) fun y hy => hh y (by simp [hy])]
theorem ClsOk.step {g : Gr} {m : Nat} {cs : List (List Int)} {s : Gr × List Int} (h : ClsOk g m cs s) (c : List Int) (hc : ∀ l ∈ c, l ≠ 0 ∧ l.natAbs ≤ g.n) (hl : g.len + m + c.length ≤ 8000) : ClsOk g (m + c.length) (cs ++ [c]) (stepCl s c) := by
  have hn : s.1.n = g.n := h.ext.1
  have hb : ∀ x ∈ c.map litI, s.1.isB x = true := fun x hx => by
    obtain ⟨l, hm, rfl⟩ := List.mem_map.1 hx
    exact litI_isB (hc l hm).1 (by rw [hn]; exact (hc l hm).2)
  have hlen := h.len
  have hm := anyG_mk h.fine (c.map litI) hb (by rw [List.length_map]; omega)
  rw [List.length_map] at hm
  unfold stepCl
  generalize anyG s.1 (c.map litI) = r at *
  have hml := hm.len
  refine ⟨h.ext.trans hm.ext, hm.fine, by simp only; omega, by simp [h.by_], fun x hx => ?_, fun ins => ?_⟩
  · simp only at hx
    rcases List.mem_append.1 hx with hx | hx
    · exact hm.ext.isB (h.lit x hx)
    · rw [List.mem_singleton] at hx; subst hx; exact hm.lit
  · simp only
    rw [List.map_append, List.map_append, ← h.val ins]
    congr 1
    · exact List.map_congr_left fun x hx => hm.ext.val ins x (h.lit x hx)
    · simp only [List.map_cons, List.map_nil]
      rw [hm.val, List.any_map, any_congr fun l hl => ?_]
      exact litI_val ins (hc l hl).1 (by rw [hn]; exact (hc l hl).2)
theorem clsG_ok {g : Gr} (h : g.Fine) (cs : List (List Int)) (hc : LitsIn g.n cs) (hl : g.len + sumL cs ≤ 8000) : ∀ k, k ≤ cs.length → ClsOk g (sumL (cs.take k)) (cs.take k) (clsG g (cs.take k))
  | 0, _ => ⟨Ext.refl g, h, by simp [sumL, clsG], rfl, fun x hx => (by cases hx), fun ins => rfl⟩
  | k + 1, hk => by
    have h1 := clsG_ok h cs hc hl k (by omega)
    rw [clsG_take g cs k (by omega), sumL_take cs k (by omega), show cs.take (k + 1) = cs.take k ++ [cs.getD k []] by rw [List.take_succ_eq_append_getElem (show k < cs.length by omega)]; simp [List.getD, show k < cs.length by omega]]
    refine h1.step _ (hc _ (by simp [List.getD, show k < cs.length by omega])) ?_
    have := sumL_take cs k (by omega)
    have := sumL_le cs (k + 1)
    omega
theorem clausesG_mk {g : Gr} (h : g.Fine) (cs : List (List Int)) (hc : LitsIn g.n cs) (hl : g.len + sumL cs + cs.length ≤ 8000) : Mk g (sumL cs + cs.length) (fun ins => cs.all fun c => c.any (litW ins)) (clausesG g cs) := by
  have h1 := clsG_ok h cs hc (by omega) cs.length (Nat.le_refl _)
  rw [List.take_length] at h1
  have hlen := h1.len
  have h2 := allG_mk h1.fine (clsG g cs).2 h1.lit (by rw [h1.by_]; omega)
  rw [h1.by_] at h2
  unfold clausesG
  refine ⟨h1.ext.trans h2.ext, h2.ok, h2.bad, by have := h2.len; omega, h2.lit, fun ins => ?_⟩
  rw [h2.val]
  have e : ((clsG g cs).2.map ((clsG g cs).1.val ins)).all id = (cs.map fun c => c.any (litW ins)).all id := by rw [h1.val ins]
  rw [List.all_map, List.all_map] at e
  exact e
end Go.Proofs.YtbighmmjmklioaaDoor
