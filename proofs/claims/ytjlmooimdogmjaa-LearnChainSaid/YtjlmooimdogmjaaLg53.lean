/- LearnChain's clauses (pure): what follows along the chain, both ways; a model shows that nothing is wrong. No conditions beyond those typed. · LearnChain's clauses as they are told (pure). No conditions beyond those typed. -/
import Derived.Test.YtjlmooimdogmjaaLg38
set_option linter.unusedVariables false
set_option linter.unusedSimpArgs false
set_option linter.unusedVariables false
set_option linter.unusedSimpArgs false
namespace Go.Proofs.Ytjlmooimdogmjaa

/-- What a model of the clauses makes true is all that can follow. -/
theorem Fol.sound {C : List (List Int)} {D : List Int} {M : Int → Prop} (hM : ∀ l, M l → ¬ M (-l)) (hC : ∀ c ∈ C, ∃ l ∈ c, M l) (hD : ∀ l ∈ D, M l) {l : Int} (h : Fol C D l) : M l := by
  induction h with
  | dec h => exact hD _ h
  | @unit c l hc hl _ ih =>
    obtain ⟨k, hk, hm⟩ := hC c hc
    by_cases e : k = l
    · exact e ▸ hm
    · exact absurd (ih k hk e) (hM k hm)
theorem not_wrg {C : List (List Int)} {D : List Int} {M : Int → Prop} (hM : ∀ l, M l → ¬ M (-l)) (hC : ∀ c ∈ C, ∃ l ∈ c, M l) (hD : ∀ l ∈ D, M l) : ¬ Wrg C D := by
  rintro (⟨c, hc, h⟩ | ⟨l, h1, h2⟩)
  · obtain ⟨k, hk, hm⟩ := hC c hc
    exact hM k hm (Fol.sound hM hC hD (h k hk))
  · exact hM l (Fol.sound hM hC hD h1) (Fol.sound hM hC hD h2)
/-- The clauses of the chain are there. -/
structure ChC (n : Nat) (C : List (List Int)) : Prop where
  link : ∀ v : Nat, 1 ≤ v → v < n → ∃ c ∈ C, ∀ x, x ∈ c ↔ x = -(v : Int) ∨ x = (v : Int) + 1
  up : ∃ c ∈ C, ∀ x, x ∈ c ↔ x = -(n : Int) ∨ x = (n : Int) + 1
  down : ∃ c ∈ C, ∀ x, x ∈ c ↔ x = -(n : Int) ∨ x = -(n : Int) - 1
  pos : 1 ≤ n
  all : ∀ c ∈ C, (∃ v : Nat, 1 ≤ v ∧ v < n ∧ ∀ x, x ∈ c ↔ x = -(v : Int) ∨ x = (v : Int) + 1) ∨ (∀ x, x ∈ c ↔ x = -(n : Int) ∨ x = (n : Int) + 1) ∨ ∀ x, x ∈ c ↔ x = -(n : Int) ∨ x = -(n : Int) - 1
theorem ChC.only {n : Nat} {C : List (List Int)} (h : ChC n C) : ∀ c ∈ C, ∃ v : Nat, 1 ≤ v ∧ v ≤ n ∧ -(v : Int) ∈ c := fun c hc => by
  rcases h.all c hc with ⟨v, h1, h2, h3⟩ | h3 | h3
  · exact ⟨v, h1, by omega, (h3 _).2 (.inl rfl)⟩
  · exact ⟨n, h.pos, Nat.le_refl _, (h3 _).2 (.inl rfl)⟩
  · exact ⟨n, h.pos, Nat.le_refl _, (h3 _).2 (.inl rfl)⟩
theorem ChC.fwd {n : Nat} {C : List (List Int)} {D : List Int} (h : ChC n C) {a : Nat} (ha : 1 ≤ a) (hf : Fol C D (a : Int)) : ∀ b : Nat, a ≤ b → b ≤ n → Fol C D (b : Int) := by
  intro b
  induction b with
  | zero => intro h1; omega
  | succ b ih =>
    intro h1 h2
    rcases Nat.lt_or_ge a (b + 1) with h' | h'
    · have h3 := ih (by omega) (by omega)
      obtain ⟨c, hc, hx⟩ := h.link b (by omega) (by omega)
      refine .unit hc ((hx _).2 (.inr (by omega))) fun k hk hne => ?_
      rcases (hx k).1 hk with e | e
      · rw [e, Int.neg_neg]; exact h3
      · omega
    · rw [show b + 1 = a by omega]; exact hf
theorem ChC.wrong {n : Nat} {C : List (List Int)} {D : List Int} (h : ChC n C) {a : Nat} (ha : 1 ≤ a) (han : a ≤ n) (hf : Fol C D (a : Int)) : Wrg C D := by
  have h1 := h.fwd ha hf n han (Nat.le_refl _)
  obtain ⟨c, hc, hx⟩ := h.up
  have h2 : Fol C D ((n : Int) + 1) := .unit hc ((hx _).2 (.inr rfl)) fun k hk hne => by
    rcases (hx k).1 hk with e | e
    · rw [e, Int.neg_neg]; exact h1
    · exact absurd e hne
  obtain ⟨d, hd, hy⟩ := h.down
  refine .inl ⟨d, hd, fun k hk => ?_⟩
  rcases (hy k).1 hk with e | e
  · rw [e, Int.neg_neg]; exact h1
  · rw [e, show -(-(n : Int) - 1) = (n : Int) + 1 by omega]; exact h2
theorem chain_back {n : Nat} {C : List (List Int)} {D : List Int} (h : ∀ v : Nat, 1 ≤ v → v < n → ∃ c ∈ C, ∀ x, x ∈ c ↔ x = -(v : Int) ∨ x = (v : Int) + 1) {b : Nat} (hb : b ≤ n) (hf : Fol C D (-(b : Int))) : ∀ d a : Nat, 1 ≤ a → a + d = b → Fol C D (-(a : Int)) := by
  intro d
  induction d with
  | zero => intro a _ e; rw [show a = b by omega]; exact hf
  | succ d ih =>
    intro a h1 e
    have h3 := ih (a + 1) (by omega) (by omega)
    obtain ⟨c, hc, hx⟩ := h a h1 (by omega)
    refine .unit hc ((hx _).2 (.inl rfl)) fun k hk hne => ?_
    rcases (hx k).1 hk with e | e
    · exact absurd e hne
    · rw [e, show -((a : Int) + 1) = -((a + 1 : Nat) : Int) by omega]; exact h3
/-- All false is a model. -/
theorem ChC.model {n : Nat} {C : List (List Int)} (h : ChC n C) : ¬ Wrg C [] :=
  not_wrg (M := fun l => l < 0) (fun l h1 h2 => by omega) (fun c hc => by
    obtain ⟨v, h1, _, h3⟩ := h.only c hc
    exact ⟨_, h3, by omega⟩) nofun
/-- With a lesson of one negative literal it still is. -/
theorem ChC.more {n : Nat} {C : List (List Int)} (h : ChC n C) {u : Int} (hu : u < 0) {cc : List Int} (hm : u ∈ cc) : ¬ Wrg (C ++ [cc]) [] :=
  not_wrg (M := fun l => l < 0) (fun l h1 h2 => by omega) (fun c hc => by
    rcases List.mem_append.1 hc with hc | hc
    · obtain ⟨v, h1, _, h3⟩ := h.only c hc
      exact ⟨_, h3, by omega⟩
    · simp at hc
      subst hc
      exact ⟨u, hm, hu⟩) nofun
/-- What lies on the trail behind the one decision. -/
theorem ChC.trail {n : Nat} {p : Pr} (hw : PrW p) (h : ChC n (clsP p)) {a : Nat} (ha : 1 ≤ a) (han : a ≤ n) (hst : p.st = [0]) (h0 : p.tr.getD 0 0 = (a : Int)) : ∀ m i, i < m → i < p.tr.length → (∃ b : Nat, a ≤ b ∧ b ≤ n ∧ p.tr.getD i 0 = (b : Int)) ∨ ((p.tr.getD i 0 = (n : Int) + 1 ∨ p.tr.getD i 0 = -(n : Int) - 1) ∧ (n : Int) ∈ p.tr.take i) := by
  intro m
  induction m with
  | zero => intro i hi; exact absurd hi (Nat.not_lt_zero _)
  | succ m ih =>
    intro i him hi
    by_cases hi0 : i = 0
    · subst hi0; exact .inl ⟨a, Nat.le_refl _, han, h0⟩
    · have hns : i ∉ p.st := by rw [hst]; simp; omega
      obtain ⟨k, c, _, hc, hl, hot⟩ := hw.rsn i hi hns
      have hcm : c ∈ clsP p := mem_clsP.2 ⟨k, hc⟩
      have hin : p.tr.getD i 0 ∈ p.tr := getD_mem hi
      have hback : ∀ y, y ∈ p.tr.take i → (∃ b : Nat, a ≤ b ∧ b ≤ n ∧ y = (b : Int)) ∨ ((y = (n : Int) + 1 ∨ y = -(n : Int) - 1) ∧ (n : Int) ∈ p.tr.take i) := fun y hy => by
        obtain ⟨j, hj, e⟩ := List.getElem_of_mem hy
        have hj' : j < i ∧ j < p.tr.length := by simp at hj; omega
        rw [List.getElem_take] at e
        have eg : p.tr.getD j 0 = y := by rw [← e]; simp [List.getD, hj'.2]
        have := ih j (by omega) hj'.2
        rw [eg] at this
        refine this.imp id fun ⟨h1, h2⟩ => ⟨h1, ?_⟩
        have ht : p.tr.take j = (p.tr.take i).take j := by rw [List.take_take, Nat.min_eq_left (by omega)]
        rw [ht] at h2
        exact List.mem_of_mem_take h2
      rcases h.all c hcm with ⟨v, h1, h2, h3⟩ | h3 | h3
      · rcases (h3 _).1 hl with e | e
        · exfalso
          have := hback _ (hot ((v : Int) + 1) ((h3 _).2 (.inr rfl)) (by rw [e]; omega))
          rcases this with ⟨b, k1, k2, k3⟩ | ⟨k1 | k1, _⟩ <;> omega
        · have := hback _ (hot (-(v : Int)) ((h3 _).2 (.inl rfl)) (by rw [e]; omega))
          rcases this with ⟨b, k1, k2, k3⟩ | ⟨k1 | k1, _⟩
          · exact .inl ⟨v + 1, by omega, by omega, by rw [e]; omega⟩
          · omega
          · omega
      · rcases (h3 _).1 hl with e | e
        · exfalso
          have := hback _ (hot ((n : Int) + 1) ((h3 _).2 (.inr rfl)) (by rw [e]; omega))
          rcases this with ⟨b, k1, k2, k3⟩ | ⟨_, k2⟩
          · omega
          · rw [e] at hin
            exact hw.not_both (List.mem_of_mem_take k2) hin
        · have := hot (-(n : Int)) ((h3 _).2 (.inl rfl)) (by rw [e]; omega)
          rw [Int.neg_neg] at this
          exact .inr ⟨.inl e, this⟩
      · rcases (h3 _).1 hl with e | e
        · exfalso
          have := hback _ (hot (-(n : Int) - 1) ((h3 _).2 (.inr rfl)) (by rw [e]; omega))
          rcases this with ⟨b, k1, k2, k3⟩ | ⟨_, k2⟩
          · omega
          · rw [e] at hin
            exact hw.not_both (List.mem_of_mem_take k2) hin
        · have := hot (-(n : Int)) ((h3 _).2 (.inl rfl)) (by rw [e]; omega)
          rw [Int.neg_neg] at this
          exact .inr ⟨.inr e, this⟩
/-- What such a conflict teaches. -/
theorem ChC.les {n : Nat} {p : Pr} (hw : PrW p) (h : ChC n (clsP p)) {a : Nat} (ha : 1 ≤ a) (han : a ≤ n) (hst : p.st = [0]) (h0 : p.tr.getD 0 0 = (a : Int)) {c0 : List Int} (hc : c0 ∈ clsP p) (hf : AllF p c0) {u : Int} {r : List Int} (hL : LesR p c0 u r) (ht : topL p c0 = (p.st.length : Int)) : r = [] ∧ ∃ v : Nat, a ≤ v ∧ v ≤ n ∧ u = -(v : Int) := by
  have ht1 : topL p c0 = 1 := by rw [ht, hst]; rfl
  have hlv : ∀ i, lvI p i = 1 := fun i => by unfold lvI; rw [hst]; simp
  have htr := ChC.trail hw h ha han hst h0
  refine ⟨?_, ?_⟩
  · cases r with
    | nil => rfl
    | cons x r =>
      have := (hL.rst x (by simp)).2
      omega
  · obtain ⟨i, hi, e⟩ := List.getElem_of_mem hL.tu
    have eg : p.tr.getD i 0 = -u := by rw [← e]; simp [List.getD, hi]
    rcases htr (i + 1) i (Nat.lt_succ_self _) hi with ⟨b, k1, k2, k3⟩ | ⟨_, hn⟩
    · exact ⟨b, k1, k2, by omega⟩
    · exfalso
      have hnc : -(n : Int) ∈ c0 := by
        rcases h.all c0 hc with ⟨v, h1, h2, h3⟩ | h3 | h3
        · exfalso
          have hm := hf _ ((h3 _).2 (.inr rfl))
          obtain ⟨j, hj, e⟩ := List.getElem_of_mem hm
          have ej : p.tr.getD j 0 = -((v : Int) + 1) := by rw [← e]; simp [List.getD, hj]
          rcases htr (j + 1) j (Nat.lt_succ_self _) hj with ⟨b, k1, k2, k3⟩ | ⟨k1 | k1, _⟩ <;> omega
        · exact (h3 _).2 (.inl rfl)
        · exact (h3 _).2 (.inl rfl)
      obtain ⟨j, hj, e⟩ := List.getElem_of_mem hn
      have hj' : j < i ∧ j < p.tr.length := by simp at hj; omega
      rw [List.getElem_take] at e
      have ej : p.tr.getD j 0 = (n : Int) := by rw [← e]; simp [List.getD, hj'.2]
      have hvj : vrI p j = (plc (-(n : Int)) : Int) := by unfold vrI; rw [ej, plc_negate]
      have hvi : vrI p i = (plc u : Int) := by unfold vrI; rw [eg, plc_negate]
      have h1 := hL.uip _ hnc (by rw [← hvj, hw.levI hj'.2, hlv, ht1]; rfl)
      rw [← hvj, ← hvi, hw.ixI hi, hw.ixI hj'.2] at h1
      omega
theorem ChC.two {n : Nat} {C : List (List Int)} (h : ChC n C) {c : List Int} (hc : c ∈ C) (l : Int) : ∃ x ∈ c, x ≠ l := by
  rcases h.all c hc with ⟨v, h1, h2, h3⟩ | h3 | h3
  · by_cases e : l = -(v : Int)
    · exact ⟨_, (h3 _).2 (.inr rfl), by omega⟩
    · exact ⟨_, (h3 _).2 (.inl rfl), fun e' => e e'.symm⟩
  · by_cases e : l = -(n : Int)
    · exact ⟨_, (h3 _).2 (.inr rfl), by omega⟩
    · exact ⟨_, (h3 _).2 (.inl rfl), fun e' => e e'.symm⟩
  · by_cases e : l = -(n : Int)
    · exact ⟨_, (h3 _).2 (.inr rfl), by omega⟩
    · exact ⟨_, (h3 _).2 (.inl rfl), fun e' => e e'.symm⟩
/-- Ahead of the decision nothing comes of it. -/
theorem ChC.quiet {n : Nat} {p q : Pr} {x : Int} (h : ChC n (clsP p)) (ht : p.tr = []) (hs : p.st = []) (hR : PrpR p x q) : x = -1 ∧ q.tr = [] ∧ q.st = [] ∧ CldP q := by
  obtain ⟨_, r2, r3, ⟨m, _, r4, _⟩, hq, r6⟩ := hR
  have hqs : q.st = [] := r3.trans hs
  have hcl : clsP q = clsP p := by unfold clsP; rw [r2]
  have hqt : q.tr = [] := by
    rcases Nat.eq_zero_or_pos q.tr.length with h0 | h0
    · exact List.length_eq_zero_iff.1 h0
    · exfalso
      obtain ⟨k, c, _, hc, hl, hot⟩ := hq.rsn 0 h0 (by rw [hqs]; simp)
      have hcm : c ∈ clsP p := by rw [← hcl]; exact mem_clsP.2 ⟨k, hc⟩
      obtain ⟨y, hy, hne⟩ := h.two hcm (q.tr.getD 0 0)
      have := hot y hy hne
      simp at this
  rcases r6 with ⟨e, hcd⟩ | ⟨k, d, _, hd, hfd⟩
  · exact ⟨e, hqt, hqs, hcd⟩
  · exfalso
    have hdm : d ∈ clsP p := by rw [← hcl]; exact mem_clsP.2 ⟨k, hd⟩
    obtain ⟨y, hy, _⟩ := h.two hdm 0
    have := hfd y hy
    rw [hqt] at this
    cases this
/-- The lesson added, at level 0. -/
theorem ChC.last {n : Nat} {p q : Pr} {x : Int} (h : ChC n (clsP p)) {a v : Nat} (ha : 1 ≤ a) (hav : a ≤ v) (hv : v ≤ n) {cc : List Int} (hc : NrmP [-(v : Int)] cc) (hR : PrpR (addP (backP p 0) cc) x q) : x = -1 ∧ valP q (a : Int) = 2 := by
  obtain ⟨_, r2, r3, ⟨m, _, r4, _⟩, hq, r6⟩ := hR
  have ebc : (backP p 0).cl = p.cl := by unfold backP; split <;> rfl
  have ecl : q.cl = (backP p 0).cl ++ [some cc] := r2
  rw [ebc] at ecl
  have ecs : clsP q = clsP p ++ [cc] := by unfold clsP; rw [ecl]; simp
  have est : q.st = (backP p 0).st := r3
  have hst0 : (backP p 0).st = [] := by
    unfold backP
    split
    · simp
    · rename_i hh
      have hh' : ¬ 0 < p.st.length := hh
      exact List.length_eq_zero_iff.1 (by omega)
  rw [hst0] at est
  have hdec : decP q = [] := by unfold decP; rw [est]; rfl
  have hmem : -(v : Int) ∈ cc := (hc.2 _).2 (by simp)
  have hnw : ¬ Wrg (clsP q) [] := by rw [ecs]; exact h.more (by omega) hmem
  rcases r6 with ⟨e, hcd⟩ | ⟨k, d, _, hd, hfd⟩
  · refine ⟨e, ?_⟩
    have h1 : Fol (clsP q) (decP q) (-(v : Int)) := .unit (c := cc) (by rw [ecs]; simp) hmem fun k hk hne => by
      have := (hc.2 k).1 hk
      simp at this
      exact absurd this hne
    have h2 := chain_back (n := n) (fun w k1 k2 => by
      obtain ⟨c, hc, hx⟩ := h.link w k1 k2
      exact ⟨c, by rw [ecs]; exact List.mem_append.2 (.inl hc), hx⟩) hv h1 (v - a) a ha (by omega)
    exact hq.val_false.2 ((hq.iff hcd _).1 h2)
  · exfalso
    have := hq.wrong hd hfd
    rw [hdec] at this
    exact hnw this
end Go.Proofs.Ytjlmooimdogmjaa

set_option linter.unusedVariables false
set_option linter.unusedSimpArgs false
namespace Go.Proofs.Ytjlmooimdogmjaa

theorem clsP_addC (p : Pr) (c : List Int) : clsP (addP p c) = clsP p ++ [c] := by unfold clsP addP; simp
theorem ok_two {n : Nat} {a b : Int} (ha : 1 ≤ plc a ∧ plc a ≤ n) (hb : 1 ≤ plc b ∧ plc b ≤ n) (h : a ≠ -b) : addOk n [a, b] = true := by
  have hna : a ≠ -a := fun e => by have := plc_zero' ha.1; omega
  have hnb : b ≠ -b := fun e => by have := plc_zero' hb.1; omega
  unfold addOk
  refine decide_eq_true fun x hx => ?_
  rcases List.mem_cons.1 hx with rfl | hx
  · refine ⟨ha, fun hm => ?_⟩
    rcases List.mem_cons.1 hm with e | hm
    · omega
    · simp at hm; omega
  · simp at hx
    subst hx
    refine ⟨hb, fun hm => ?_⟩
    rcases List.mem_cons.1 hm with e | hm
    · omega
    · simp at hm; omega
/-- The first j - 1 links are told. -/
structure ChJ (n j : Nat) (p : Pr) : Prop where
  n : p.n = n + 1
  tr : p.tr = []
  st : p.st = []
  len : p.cl.length + 1 = j
  link : ∀ v : Nat, 1 ≤ v → v < j → ∃ c ∈ clsP p, ∀ x, x ∈ c ↔ x = -(v : Int) ∨ x = (v : Int) + 1
  all : ∀ c ∈ clsP p, ∃ v : Nat, 1 ≤ v ∧ v < j ∧ ∀ x, x ∈ c ↔ x = -(v : Int) ∨ x = (v : Int) + 1
theorem plc_natC (v : Nat) : plc (v : Int) = v ∧ plc (-(v : Int)) = v := ⟨plc_nat, by rw [plc_negate]; exact plc_nat⟩
theorem ChJ.add {n j : Nat} {p p' : Pr} {b : Bool} (h : ChJ n j p) (hj1 : 1 ≤ j) (hj : j < n) (hA : AddR p [-(j : Int), (j : Int) + 1] b p') : b = true ∧ ChJ n (j + 1) p' := by
  have hok : addOk p.n [-(j : Int), (j : Int) + 1] = true := by
    rw [h.n]
    have h1 := plc_natC j
    have h2 := (plc_natC (j + 1)).1
    rw [show ((j + 1 : Nat) : Int) = (j : Int) + 1 by omega] at h2
    exact ok_two (by rw [h1.2]; omega) (by rw [h2]; omega) (by omega)
  rcases hA with ⟨hb, _, c, hc, rfl⟩ | ⟨_, h0, _⟩
  · have hcx : ∀ x, x ∈ c ↔ x = -(j : Int) ∨ x = (j : Int) + 1 := fun x => by rw [hc.2 x]; simp
    refine ⟨hb, h.n, h.tr, h.st, ?_, fun v h1 h2 => ?_, fun d hd => ?_⟩
    · show (p.cl ++ [some c]).length + 1 = j + 1
      have := h.len
      simp
      omega
    · rw [clsP_addC]
      by_cases e : v = j
      · subst e; exact ⟨c, by simp, hcx⟩
      · obtain ⟨d, hd, hx⟩ := h.link v h1 (by omega)
        exact ⟨d, List.mem_append.2 (.inl hd), hx⟩
    · rw [clsP_addC] at hd
      rcases List.mem_append.1 hd with hd | hd
      · obtain ⟨v, h1, h2, h3⟩ := h.all d hd
        exact ⟨v, h1, by omega, h3⟩
      · simp at hd; subst hd; exact ⟨j, hj1, by omega, hcx⟩
  · rw [hok] at h0; exact absurd h0 (by decide)
/-- And the last two. -/
theorem ChJ.done {n : Nat} {p p1 p2 : Pr} {b1 b2 : Bool} (h : ChJ n n p) (hn : 1 ≤ n) (hA : AddR p [-(n : Int), (n : Int) + 1] b1 p1) (hB : AddR p1 [-(n : Int), -(n : Int) - 1] b2 p2) : ChC n (clsP p2) ∧ p2.n = n + 1 ∧ p2.tr = [] ∧ p2.st = [] ∧ p2.cl.length = n + 1 := by
  have h1 := plc_natC n
  have h2 := plc_natC (n + 1)
  rw [show ((n + 1 : Nat) : Int) = (n : Int) + 1 by omega] at h2
  have hk1 : addOk p.n [-(n : Int), (n : Int) + 1] = true := by rw [h.n]; exact ok_two (by rw [h1.2]; omega) (by rw [h2.1]; omega) (by omega)
  rcases hA with ⟨_, _, c, hc, rfl⟩ | ⟨_, h0, _⟩
  · have hk2 : addOk (addP p c).n [-(n : Int), -(n : Int) - 1] = true := by
      rw [show (addP p c).n = p.n from rfl, h.n]
      refine ok_two (by rw [h1.2]; omega) ?_ (by omega)
      rw [show -(n : Int) - 1 = -((n : Int) + 1) by omega, h2.2]; omega
    rcases hB with ⟨_, _, d, hd, rfl⟩ | ⟨_, h0, _⟩
    · have hcx : ∀ x, x ∈ c ↔ x = -(n : Int) ∨ x = (n : Int) + 1 := fun x => by rw [hc.2 x]; simp
      have hdx : ∀ x, x ∈ d ↔ x = -(n : Int) ∨ x = -(n : Int) - 1 := fun x => by rw [hd.2 x]; simp
      have hcl : clsP (addP (addP p c) d) = clsP p ++ [c] ++ [d] := by rw [clsP_addC, clsP_addC]
      refine ⟨?_, h.n, h.tr, h.st, ?_⟩
      · rw [hcl]
        refine ⟨fun v k1 k2 => ?_, ⟨c, by simp, hcx⟩, ⟨d, by simp, hdx⟩, hn, fun e he => ?_⟩
        · obtain ⟨e, he, hx⟩ := h.link v k1 k2
          exact ⟨e, by simp [he], hx⟩
        · rcases List.mem_append.1 he with he | he
          · rcases List.mem_append.1 he with he | he
            · exact .inl (h.all e he)
            · simp at he; subst he; exact .inr (.inl hcx)
          · simp at he; subst he; exact .inr (.inr hdx)
      · show ((p.cl ++ [some c]) ++ [some d]).length = _
        have := h.len
        simp
        omega
    · rw [hk2] at h0; exact absurd h0 (by decide)
  · rw [hk1] at h0; exact absurd h0 (by decide)
theorem cut_small {n : Nat} (hn : n ≤ 1000) : cutP ((n : Int) + 1) = n + 1 := by
  unfold cutP
  omega
theorem ChJ.start {n : Nat} (hn : n ≤ 1000) : ChJ n 1 (newP ((n : Int) + 1)) := by
  have hc := cut_small hn
  unfold newP
  generalize cutP ((n : Int) + 1) = m at *
  subst hc
  exact ⟨rfl, rfl, rfl, rfl, fun v h1 h2 => absurd h2 (by omega), fun c hc => by cases hc⟩
theorem ChC.decOk {n : Nat} {p : Pr} {a : Nat} (hn : p.n = n + 1) (ht : p.tr = []) (ha : 1 ≤ a) (han : a ≤ n) : decOk p (a : Int) = true := by
  have h1 := (plc_natC a).1
  unfold Go.Proofs.Ytjlmooimdogmjaa.decOk valP
  rw [h1, hn, ht]
  simp
  omega
/-- The decision ends in a conflict. -/
theorem ChC.second {n : Nat} {p q : Pr} {x : Int} {a : Nat} (hw : PrW p) (h : ChC n (clsP p)) (hn : p.n = n + 1) (ht : p.tr = []) (hs : p.st = []) (hcd : CldP p) (ha : 1 ≤ a) (han : a ≤ n) (hR : PrpR (decdP p (a : Int)) x q) : (∃ (k : Nat) (c : List Int), x = (k : Int) ∧ q.cl.getD k none = some c ∧ AllF q c ∧ c ∈ clsP q ∧ c ≠ []) ∧ q.st = [0] ∧ q.tr.getD 0 0 = (a : Int) ∧ clsP q = clsP p ∧ q.cl = p.cl ∧ q.n = p.n ∧ LvC q := by
  have ho := ChC.decOk hn ht ha han
  have hlv := LvC.dec hw (fun s hs' => by rw [hs] at hs'; cases hs') hcd ho hR
  have e : decdP p (a : Int) = { p with tr := p.tr ++ [(a : Int)], rs := p.rs ++ [-1], st := p.st ++ [p.tr.length] } := by unfold decdP; rw [if_pos ho]
  have hd := hR
  obtain ⟨r1, r2, r3, ⟨m, r, r4, _⟩, hq, r6⟩ := hR
  rw [e] at r1 r2 r3 r4
  have hst : q.st = [0] := by rw [r3]; show p.st ++ [p.tr.length] = [0]; rw [hs, ht]; rfl
  have htr : q.tr.getD 0 0 = (a : Int) := by rw [r4]; show (p.tr ++ [(a : Int)] ++ m).getD 0 0 = _; rw [ht]; rfl
  have hcl : q.cl = p.cl := r2
  have hcs : clsP q = clsP p := clsP_eq hcl
  refine ⟨?_, hst, htr, hcs, hcl, r1, hlv⟩
  rcases r6 with ⟨_, hc⟩ | ⟨k, c, hx, hc, hf⟩
  · exfalso
    have hdq : decP q = [(a : Int)] := by unfold decP; rw [hst]; simp only [List.map_cons, List.map_nil]; rw [htr]
    refine hq.right hc ?_
    rw [hdq, hcs]
    exact h.wrong ha han (.dec (by simp))
  · have hcm : c ∈ clsP q := mem_clsP.2 ⟨k, hc⟩
    refine ⟨k, c, hx, hc, hf, hcm, fun e => ?_⟩
    rw [hcs] at hcm
    obtain ⟨y, hy, _⟩ := h.two hcm 0
    rw [e] at hy
    cases hy
end Go.Proofs.Ytjlmooimdogmjaa
