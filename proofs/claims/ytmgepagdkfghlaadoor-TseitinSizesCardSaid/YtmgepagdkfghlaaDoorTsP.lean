/- A circuit as clauses, as plain data: a literal's variable ('litC'), a clause of a circuit's literals ('withL'), a gate's three, all of them ('encC'); what they are worth under given values. Plain facts on ints and lists; no conditions beyond those typed. -/
import Derived.Test.YtmgepagdkfghlaaDoorGwP
import Derived.Test.YtmgepagdkfghlaaDoorSlwP
namespace Go.Proofs.YtmgepagdkfghlaaDoor

def litC (l : Int) : Int := if l < 2 then 0 else if l % 2 = 1 then -(l / 2) else l / 2
/-- What a literal gives a clause. -/
def putC (l : Int) : List Int := if l = 0 then [] else [litC l]
def clauseC (ls : List Int) : List Int := ls.flatMap putC
def oneC (ls : List Int) : Bool := ls.any fun l => decide (l = 1)
/-- The clause of these literals, or none. -/
def withL (ls : List Int) : List (List Int) := if oneC ls = true then [] else [clauseC ls]
/-- The three clauses of gate n of a and b, by literals (n: the gate's own one). -/
def gateC (n a b : Int) : List (List Int) := withL [n + 1, a] ++ (withL [n + 1, b] ++ withL [n, notI a, notI b])
def gatesC (N : Nat) (ps : List (Int × Int)) (k : Nat) : List (List Int) := (List.range k).flatMap fun (i : Nat) => gateC (2 * ((N : Int) + (i : Int) + 1)) (ps.getD i (0, 0)).1 (ps.getD i (0, 0)).2
def forceC (fs : List Int) : List (List Int) := fs.flatMap fun l => withL [l]
def encC (N : Nat) (ps : List (Int × Int)) (fs : List Int) : List (List Int) := gatesC N ps ps.length ++ forceC fs

theorem gatesC_zero (N : Nat) (ps : List (Int × Int)) : gatesC N ps 0 = [] := rfl
theorem gatesC_succ (N : Nat) (ps : List (Int × Int)) (k : Nat) : gatesC N ps (k + 1) = gatesC N ps k ++ gateC (2 * ((N : Int) + (k : Int) + 1)) (ps.getD k (0, 0)).1 (ps.getD k (0, 0)).2 := by
  unfold gatesC; rw [List.range_succ, List.flatMap_append]; simp
theorem forceC_take (fs : List Int) (k : Nat) (h : k < fs.length) : forceC (fs.take (k + 1)) = forceC (fs.take k) ++ withL [fs.getD k 0] := by
  unfold forceC
  rw [List.take_succ_eq_append_getElem h, List.flatMap_append]
  simp [List.getD, h]
theorem clauseC_take (ls : List Int) (k : Nat) (h : k < ls.length) : clauseC (ls.take (k + 1)) = clauseC (ls.take k) ++ putC (ls.getD k 0) := by
  unfold clauseC
  rw [List.take_succ_eq_append_getElem h, List.flatMap_append]
  simp [List.getD, h]
theorem oneC_take (ls : List Int) (k : Nat) (h : k < ls.length) : oneC (ls.take (k + 1)) = (oneC (ls.take k) || decide (ls.getD k 0 = 1)) := by
  unfold oneC
  rw [List.take_succ_eq_append_getElem h, List.any_append]
  simp [List.getD, h]
theorem oneC_at (ls : List Int) (k : Nat) (h : k < ls.length) (h1 : ls.getD k 0 = 1) : oneC ls = true := by
  unfold oneC
  rw [List.any_eq_true]
  exact ⟨ls[k], List.getElem_mem h, by simpa [List.getD, h] using h1⟩
theorem withL_one {ls : List Int} (h : oneC ls = true) : withL ls = [] := if_pos h
theorem withL_no {ls : List Int} (h : oneC ls = false) : withL ls = [clauseC ls] := if_neg (by rw [h]; simp)
theorem clauseC_len (ls : List Int) : (clauseC ls).length ≤ ls.length := by
  induction ls with
  | nil => simp [clauseC]
  | cons l ls ih =>
    have : clauseC (l :: ls) = putC l ++ clauseC ls := by simp [clauseC]
    rw [this, List.length_append, List.length_cons]
    unfold putC
    split
    · simp; omega
    · simp; omega
theorem withL_len (ls : List Int) : (withL ls).length ≤ 1 := by unfold withL; split <;> simp
theorem gateC_len (n a b : Int) : (gateC n a b).length ≤ 3 := by
  unfold gateC
  have h1 := withL_len [n + 1, a]
  have h2 := withL_len [n + 1, b]
  have h3 := withL_len [n, notI a, notI b]
  simp only [List.length_append]
  omega
theorem gatesC_len (N : Nat) (ps : List (Int × Int)) : ∀ k, (gatesC N ps k).length ≤ 3 * k
  | 0 => by rw [gatesC_zero]; simp
  | k + 1 => by
    rw [gatesC_succ, List.length_append]
    have := gatesC_len N ps k
    have := gateC_len (2 * ((N : Int) + (k : Int) + 1)) (ps.getD k (0, 0)).1 (ps.getD k (0, 0)).2
    omega
theorem forceC_len : ∀ fs : List Int, (forceC fs).length ≤ fs.length
  | [] => by simp [forceC]
  | l :: fs => by
    have : forceC (l :: fs) = withL [l] ++ forceC fs := by simp [forceC]
    rw [this, List.length_append, List.length_cons]
    have := forceC_len fs
    have := withL_len [l]
    omega
theorem litC_even (n : Int) (h : 1 ≤ n) : litC (2 * n) = n := by unfold litC; rw [if_neg (by omega), if_neg (by omega)]; omega
theorem litC_odd (n : Int) (h : 1 ≤ n) : litC (2 * n + 1) = -n := by unfold litC; rw [if_neg (by omega), if_pos (by omega)]; omega
theorem litC_abs {l : Int} (h : 2 ≤ l) : (litC l = l / 2 ∧ l % 2 = 0) ∨ (litC l = -(l / 2) ∧ l % 2 = 1) := by
  unfold litC
  rw [if_neg (by omega)]
  by_cases h2 : l % 2 = 1
  · rw [if_pos h2]; exact .inr ⟨rfl, h2⟩
  · rw [if_neg h2]; exact .inl ⟨rfl, by omega⟩
/-- All literals of a clause are variables up to m. -/
def InC (m : Int) (c : List Int) : Prop := ∀ y ∈ c, y ≠ 0 ∧ -m ≤ y ∧ y ≤ m
theorem clauseC_in {m : Int} {ls : List Int} (h1 : oneC ls = false) (h : ∀ l ∈ ls, 0 ≤ l ∧ l / 2 ≤ m) : InC m (clauseC ls) := by
  intro y hy
  unfold clauseC at hy
  obtain ⟨l, hl, hyl⟩ := List.mem_flatMap.1 hy
  unfold putC at hyl
  split at hyl
  · cases hyl
  · next h0 =>
    rw [List.mem_singleton] at hyl
    subst hyl
    have hn : l ≠ 1 := fun e => by
      have : oneC ls = true := by unfold oneC; rw [List.any_eq_true]; exact ⟨l, hl, by simp [e]⟩
      rw [this] at h1; cases h1
    have := h l hl
    rcases litC_abs (show 2 ≤ l by omega) with ⟨e, _⟩ | ⟨e, _⟩ <;> omega
theorem withL_in {m : Int} {ls : List Int} (h : ∀ l ∈ ls, 0 ≤ l ∧ l / 2 ≤ m) : ∀ c ∈ withL ls, InC m c := by
  intro c hc
  cases h1 : oneC ls with
  | true => rw [withL_one h1] at hc; cases hc
  | false =>
    rw [withL_no h1, List.mem_singleton] at hc
    subst hc
    exact clauseC_in h1 h
theorem notI_nat {l : Int} (h : 0 ≤ l) : 0 ≤ notI l ∧ notI l / 2 = l / 2 := ⟨(notI_of l h).1, (notI_of l h).2.2.1⟩
theorem gateC_in {m n a b : Int} (hn : 0 ≤ n) (hn2 : (n + 1) / 2 ≤ m) (ha : 0 ≤ a ∧ a / 2 ≤ m) (hb : 0 ≤ b ∧ b / 2 ≤ m) : ∀ c ∈ gateC n a b, InC m c := by
  intro c hc
  unfold gateC at hc
  have na := notI_nat ha.1
  have nb := notI_nat hb.1
  rcases List.mem_append.1 hc with hc | hc
  · exact withL_in (fun l hl => by simp at hl; rcases hl with rfl | rfl <;> omega) c hc
  · rcases List.mem_append.1 hc with hc | hc
    · exact withL_in (fun l hl => by simp at hl; rcases hl with rfl | rfl <;> omega) c hc
    · exact withL_in (fun l hl => by simp at hl; rcases hl with rfl | rfl | rfl <;> omega) c hc
theorem encC_in {N : Nat} {ps : List (Int × Int)} {fs : List Int} (hok : ∀ k, k < ps.length → okP N k (ps.getD k (0, 0)) = true) (hf : ∀ l ∈ fs, 0 ≤ l ∧ l / 2 ≤ (N : Int) + (ps.length : Int)) : ∀ c ∈ encC N ps fs, InC ((N : Int) + (ps.length : Int)) c := by
  intro c hc
  unfold encC at hc
  rcases List.mem_append.1 hc with hc | hc
  · unfold gatesC at hc
    obtain ⟨i, hi, hc⟩ := List.mem_flatMap.1 hc
    rw [List.mem_range] at hi
    have := (okP_iff _ _ _).1 (hok i hi)
    exact gateC_in (by omega) (by omega) (by omega) (by omega) c hc
  · unfold forceC at hc
    obtain ⟨l, hl, hc⟩ := List.mem_flatMap.1 hc
    exact withL_in (fun l' h' => by rw [List.mem_singleton] at h'; subst h'; exact hf l' hl) c hc

/-! ### What they are worth -/
theorem holds_lit (v : List Bool) (l : Int) (h : 2 ≤ l) (hl : (l / 2).toNat < v.length) : holdsL v (litC l) = worthV v l := by
  unfold holdsL worthV oddB
  rcases litC_abs h with ⟨e, h2⟩ | ⟨e, h2⟩
  · rw [e, show plc (l / 2) = (l / 2).toNat by unfold plc absI; split <;> omega]
    rw [decide_eq_true (show 1 ≤ (l / 2).toNat by omega), decide_eq_true hl, decide_eq_true (show 0 < l / 2 by omega), decide_eq_false (show ¬ l % 2 = 1 by omega)]
    cases v.getD (l / 2).toNat false <;> rfl
  · rw [e, show plc (-(l / 2)) = (l / 2).toNat by unfold plc absI; split <;> omega]
    rw [decide_eq_true (show 1 ≤ (l / 2).toNat by omega), decide_eq_true hl, decide_eq_false (show ¬ 0 < -(l / 2) by omega), decide_eq_true h2]
    cases v.getD (l / 2).toNat false <;> rfl
theorem worth_01 {v : List Bool} (hv : v.getD 0 false = false) : worthV v 0 = false ∧ worthV v 1 = true := by
  unfold worthV oddB
  constructor
  · show (v.getD 0 false != _) = false
    rw [hv]; rfl
  · show (v.getD 0 false != _) = true
    rw [hv]; rfl
theorem clauseC_worth (v : List Bool) (hv : v.getD 0 false = false) : ∀ (ls : List Int), oneC ls = false → (∀ l ∈ ls, 0 ≤ l ∧ (l / 2).toNat < v.length) → ofC v (clauseC ls) = ls.any (worthV v)
  | [], _, _ => rfl
  | l :: ls, h1, h => by
    have h1' : (decide (l = 1) || oneC ls) = false := by rw [← h1]; simp [oneC]
    rw [Bool.or_eq_false_iff, decide_eq_false_iff_not] at h1'
    have ih := clauseC_worth v hv ls h1'.2 (fun x hx => h x (by simp [hx]))
    have hl := h l (by simp)
    have e : clauseC (l :: ls) = putC l ++ clauseC ls := by simp [clauseC]
    unfold ofC at ih ⊢
    rw [e, List.any_append, ih, List.any_cons]
    congr 1
    unfold putC
    by_cases h0 : l = 0
    · rw [if_pos h0, h0, (worth_01 hv).1]; rfl
    · rw [if_neg h0, List.any_cons, List.any_nil, Bool.or_false, holds_lit v l (by omega) hl.2]
theorem withL_worth {v : List Bool} (hv : v.getD 0 false = false) {ls : List Int} (h : ∀ l ∈ ls, 0 ≤ l ∧ (l / 2).toNat < v.length) : ofL (withL ls) v = ls.any (worthV v) := by
  cases h1 : oneC ls with
  | true =>
    rw [withL_one h1]
    unfold oneC at h1
    rw [List.any_eq_true] at h1
    obtain ⟨l, hl, e⟩ := h1
    rw [decide_eq_true_eq] at e
    subst e
    symm
    show ls.any (worthV v) = true
    rw [List.any_eq_true]
    exact ⟨1, hl, (worth_01 hv).2⟩
  | false =>
    rw [withL_no h1]
    unfold ofL
    rw [List.all_cons, List.all_nil, Bool.and_true]
    exact clauseC_worth v hv ls h1 h
theorem ofL_append (xs ys : List (List Int)) (v : List Bool) : ofL (xs ++ ys) v = (ofL xs v && ofL ys v) := by unfold ofL; rw [List.all_append]
theorem gateC_worth {v : List Bool} (hv : v.getD 0 false = false) (n : Nat) (a b : Int) (hn : n + 1 < v.length) (ha : 0 ≤ a ∧ (a / 2).toNat < v.length) (hb : 0 ≤ b ∧ (b / 2).toNat < v.length) :
    ofL (gateC (2 * ((n : Int) + 1)) a b) v = (v.getD (n + 1) false == (worthV v a && worthV v b)) := by
  have na := notI_nat ha.1
  have nb := notI_nat hb.1
  unfold gateC
  rw [ofL_append, ofL_append, withL_worth hv (fun l hl => by simp at hl; rcases hl with rfl | rfl <;> omega), withL_worth hv (fun l hl => by simp at hl; rcases hl with rfl | rfl <;> omega), withL_worth hv (fun l hl => by simp at hl; rcases hl with rfl | rfl | rfl <;> omega)]
  have e1 : worthV v (2 * ((n : Int) + 1)) = v.getD (n + 1) false := by
    unfold worthV oddB
    rw [show (2 * ((n : Int) + 1) / 2).toNat = n + 1 by omega, decide_eq_false (by omega)]
    cases v.getD (n + 1) false <;> rfl
  have e2 : worthV v (2 * ((n : Int) + 1) + 1) = !v.getD (n + 1) false := by
    unfold worthV oddB
    rw [show ((2 * ((n : Int) + 1) + 1) / 2).toNat = n + 1 by omega, decide_eq_true (by omega)]
    cases v.getD (n + 1) false <;> rfl
  simp only [List.any_cons, List.any_nil, e1, e2, worthV_not v a ha.1, worthV_not v b hb.1]
  cases v.getD (n + 1) false <;> cases worthV v a <;> cases worthV v b <;> rfl
theorem gatesC_worth {v : List Bool} (hv : v.getD 0 false = false) {N : Nat} {ps : List (Int × Int)} (hok : ∀ k, k < ps.length → okP N k (ps.getD k (0, 0)) = true) (hl : N + ps.length < v.length) :
    ∀ k, k ≤ ps.length → ofL (gatesC N ps k) v = (List.range k).all fun i => v.getD (N + i + 1) false == (worthV v (ps.getD i (0, 0)).1 && worthV v (ps.getD i (0, 0)).2)
  | 0, _ => rfl
  | k + 1, h => by
    have := (okP_iff _ _ _).1 (hok k h)
    rw [gatesC_succ, ofL_append, gatesC_worth hv hok hl k (by omega), List.range_succ, List.all_append]
    have hg := gateC_worth hv (N + k) (ps.getD k (0, 0)).1 (ps.getD k (0, 0)).2 (by omega) (by omega) (by omega)
    rw [show ((N + k : Nat) : Int) + 1 = (N : Int) + (k : Int) + 1 by omega] at hg
    rw [hg]
    simp
theorem nodesV_zero (N : Nat) (ps : List (Int × Int)) (ins : List Bool) : (nodesV N ps ins).getD 0 false = false := by
  obtain ⟨t, h⟩ := nodesV_more N [] ps ins
  rw [List.nil_append] at h
  rw [h]
  rfl
theorem nodesV_take_app (N : Nat) (ps : List (Int × Int)) (ins : List Bool) (k : Nat) : ∃ t, nodesV N ps ins = nodesV N (ps.take k) ins ++ t := by
  obtain ⟨t, h⟩ := nodesV_more N (ps.take k) (ps.drop k) ins
  rw [List.take_append_drop] at h
  exact ⟨t, h⟩
/-- A gate's value is what its two are worth. -/
theorem nodesV_gate {N : Nat} {ps : List (Int × Int)} (ins : List Bool) (hok : ∀ k, k < ps.length → okP N k (ps.getD k (0, 0)) = true) (k : Nat) (hk : k < ps.length) :
    (nodesV N ps ins).getD (N + k + 1) false = (worthV (nodesV N ps ins) (ps.getD k (0, 0)).1 && worthV (nodesV N ps ins) (ps.getD k (0, 0)).2) := by
  have ho := (okP_iff _ _ _).1 (hok k hk)
  obtain ⟨t, ht⟩ := nodesV_take_app N ps ins (k + 1)
  obtain ⟨t2, ht2⟩ := nodesV_take_app N ps ins k
  have hlk : (nodesV N (ps.take k) ins).length = N + 1 + k := by rw [nodesV_len, List.length_take]; omega
  have hs : nodesV N (ps.take (k + 1)) ins = nodesV N (ps.take k) ins ++ [worthV (nodesV N (ps.take k) ins) (ps.getD k (0, 0)).1 && worthV (nodesV N (ps.take k) ins) (ps.getD k (0, 0)).2] := by
    rw [List.take_succ_eq_append_getElem hk, nodesV_snoc]
    simp [List.getD, hk]
  have w1 : worthV (nodesV N ps ins) (ps.getD k (0, 0)).1 = worthV (nodesV N (ps.take k) ins) (ps.getD k (0, 0)).1 := by rw [ht2, worthV_app _ _ _ (by omega)]
  have w2 : worthV (nodesV N ps ins) (ps.getD k (0, 0)).2 = worthV (nodesV N (ps.take k) ins) (ps.getD k (0, 0)).2 := by rw [ht2, worthV_app _ _ _ (by omega)]
  rw [w1, w2, ht, hs]
  simp only [List.getD, List.append_assoc]
  rw [List.getElem?_append_right (by omega), show N + k + 1 - (nodesV N (ps.take k) ins).length = 0 by omega]
  rfl
theorem enc_model {N : Nat} {ps : List (Int × Int)} (ins : List Bool) (hok : ∀ k, k < ps.length → okP N k (ps.getD k (0, 0)) = true) : ofL (gatesC N ps ps.length) (nodesV N ps ins) = true := by
  rw [gatesC_worth (nodesV_zero N ps ins) hok (by rw [nodesV_len]; omega) _ (Nat.le_refl _), List.all_eq_true]
  intro i hi
  rw [List.mem_range] at hi
  rw [nodesV_gate ins hok i hi]
  simp
theorem encC_nil (N : Nat) (ps : List (Int × Int)) : encC N ps [] = gatesC N ps ps.length := by unfold encC forceC; simp
/-- With one gate's value turned they are not true. -/
theorem enc_turned {N : Nat} {ps : List (Int × Int)} (ins : List Bool) (hok : ∀ k, k < ps.length → okP N k (ps.getD k (0, 0)) = true) (k : Nat) (hk : k < ps.length) :
    ofL (gatesC N ps ps.length) ((nodesV N ps ins).set (N + k + 1) (!(nodesV N ps ins).getD (N + k + 1) false)) = false := by
  have hlen : (nodesV N ps ins).length = N + 1 + ps.length := nodesV_len _ _ _
  have h0 : ((nodesV N ps ins).set (N + k + 1) (!(nodesV N ps ins).getD (N + k + 1) false)).getD 0 false = false := by
    have := nodesV_zero N ps ins
    simp only [List.getD, List.getElem?_set] at this ⊢
    rw [if_neg (by omega)]
    exact this
  rw [gatesC_worth h0 hok (by rw [List.length_set]; omega) _ (Nat.le_refl _), List.all_eq_false]
  have ho := (okP_iff _ _ _).1 (hok k hk)
  have hw : ∀ l : Int, 0 ≤ l → l / 2 ≤ ((N + k : Nat) : Int) → worthV ((nodesV N ps ins).set (N + k + 1) (!(nodesV N ps ins).getD (N + k + 1) false)) l = worthV (nodesV N ps ins) l := fun l h1 h2 => by
    unfold worthV
    congr 1
    simp only [List.getD, List.getElem?_set]
    rw [if_neg (by omega)]
  refine ⟨k, by rw [List.mem_range]; exact hk, ?_⟩
  rw [hw _ (by omega) (by omega), hw _ (by omega) (by omega), ← nodesV_gate ins hok k hk]
  have : ((nodesV N ps ins).set (N + k + 1) (!(nodesV N ps ins).getD (N + k + 1) false)).getD (N + k + 1) false = !(nodesV N ps ins).getD (N + k + 1) false := by
    simp only [List.getD, List.getElem?_set]
    rw [if_pos trivial, if_pos (by omega)]
    rfl
  rw [this]
  cases (nodesV N ps ins).getD (N + k + 1) false <;> simp
/-- With a literal forced they are true just where it is. -/
theorem enc_forced {N : Nat} {ps : List (Int × Int)} (ins : List Bool) (hok : ∀ k, k < ps.length → okP N k (ps.getD k (0, 0)) = true) (l : Int) (h0 : 0 ≤ l) (h1 : l / 2 ≤ (N : Int) + (ps.length : Int)) : ofL (encC N ps [l]) (nodesV N ps ins) = worthV (nodesV N ps ins) l := by
  unfold encC
  rw [ofL_append, enc_model ins hok, Bool.true_and, show forceC [l] = withL [l] by simp [forceC], withL_worth (nodesV_zero N ps ins) (fun x hx => by rw [List.mem_singleton] at hx; subst hx; rw [nodesV_len]; omega)]
  simp
end Go.Proofs.YtmgepagdkfghlaaDoor
