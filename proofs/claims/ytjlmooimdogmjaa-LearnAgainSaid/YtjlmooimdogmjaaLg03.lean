/- Words on slices of bools; contracts of assign.Assign.Model, assign.holds and assign.Of. Conditions: the literals lie strictly inside the 64 bits. · Contracts of assign.Assign.All and assign.Assign.Known. Conditions: the literals lie strictly inside the 64 bits. · What follows of clauses and decisions at once ('Fol'), when something is wrong ('Wrg'); values that are closed ('Clo') know just what follows, and then nothing is wrong. Holds for all lists; no conditions beyond those typed. -/
import Derived.Test.YtjlmooimdogmjaaLg02
import Derived.Test.YtjlmooimdogmjaaLg00
set_option linter.unusedVariables false
set_option linter.unusedSimpArgs false
namespace Go.Proofs.Ytjlmooimdogmjaa
open Go.RowKit

/-- The value v is a slice of bools that reads as bs. -/
def BRow (w : World) (v : Value) (bs : List Bool) : Prop :=
  ∃ a c, v = .slice a bs.length c ∧ bs.length ≤ c ∧ c ≤ maxLen ∧ (bs.length = 0 ∨ ∃ b off, a = some ⟨b, off, none⟩ ∧ b < w.heap.size ∧ ∀ i, i < bs.length → w.cell? ⟨b, off + i, none⟩ = some (.bool (bs.getD i false)))
theorem BRow.keep {w w' : World} {v : Value} {bs : List Bool} (h : BRow w v bs) (hb : Below w.heap.size w w') : BRow w' v bs := by
  obtain ⟨a, c, e, h1, h2, h3⟩ := h
  refine ⟨a, c, e, h1, h2, ?_⟩
  rcases h3 with h3 | ⟨b, off, e, hlt, hc⟩
  · exact .inl h3
  · exact .inr ⟨b, off, e, Nat.lt_of_lt_of_le hlt hb.size, fun i hi => (hb.cell (p := ⟨b, off + i, none⟩) hlt).trans (hc i hi)⟩

structure BCel (w : World) (q : Nat) (xs : List Bool) : Prop where
  sq : q < w.heap.size
  cells : ∀ i, i < xs.length → w.cell? ⟨q, i, none⟩ = some (.bool (xs.getD i false))
  free : ∀ i, w.frozen? ⟨q, i, none⟩ = false
theorem getD_setB (V : List Bool) (m : Nat) (x : Bool) (i : Nat) : (V.set m x).getD i false = if m = i ∧ i < V.length then x else V.getD i false := by
  simp only [List.getD, List.getElem?_set]
  by_cases h1 : m = i
  · subst h1
    by_cases h2 : m < V.length
    · simp [h2]
    · simp [h2]
  · simp [h1]
theorem BCel.set {w : World} {q : Nat} {xs : List Bool} (h : BCel w q xs) (m : Nat) (x : Bool) : BCel (w.setCell ⟨q, m, none⟩ (.bool x)) q (xs.set m x) where
  sq := by simpa [World.setCell] using h.sq
  cells := fun i hi => by
    have hi' : i < xs.length := by simpa using hi
    rw [getD_setB]
    by_cases e : m = i
    · subst e
      rw [if_pos ⟨rfl, hi'⟩]
      exact World.cell?_setCell_same (w := w) (h := h.cells m hi') ..
    · rw [if_neg (fun hh => e hh.1), ← h.cells i hi']
      exact World.cell?_setCell_other (w := w) (h := fun hh => e (by injection hh)) ..
  free := fun i => (World.frozen?_setCell _ _ _ _).trans (h.free i)
theorem BCel.row {w : World} {q : Nat} {xs : List Bool} (h : BCel w q xs) (hl : xs.length ≤ 4001) : BRow w (.slice (some ⟨q, 0, none⟩) xs.length xs.length) xs :=
  ⟨_, _, rfl, Nat.le_refl _, by unfold maxLen; omega, .inr ⟨q, 0, rfl, h.sq, fun i hi => by rw [Nat.zero_add]; exact h.cells i hi⟩⟩

theorem infoBool : (Try.prog.info? 4).map (fun i => (i.zero, i.size, i.bytes)) = some (some (.bool false), 1, 1) := by kernel_rfl

theorem wpList_makeB {ops : Array Oper} {rest : List Oper} {o : Oper} {a : Act} {Q : Exit → Act → World → Prop} (hgd : o.guard = none) (l c : Operand) (ho : o.op = Op.makeSlice 53 l c)
    (w : World) (n : Nat) (hl : a.eval l = .int .i64 (n : Int)) (hc : a.eval c = .int .i64 (n : Int)) (hn0 : 0 < n) (hn : n < 1099511627776)
    (h : ∀ w', BCel w' w.heap.size (List.replicate n false) → Below w.heap.size w w' → w.heap.size < w'.heap.size → wpList Try.prog ops Q rest (a.put o.dst (.slice (some ⟨w.heap.size, 0, none⟩) n n)) w') :
    wpList Try.prog ops Q (o :: rest) a w := by
  obtain ⟨i0, hi, hz0, hz1, hz2⟩ := info_parts infoBool
  refine wpList_make_full _ hgd l c 53 ho w.heap.size 4 i0 (.bool false) 1 Try.underlying53 hi hz0 hz1 _ _ _ _ n hl hc rfl rfl (by rw [hz2]; omega) (by unfold maxLen; omega) (Nat.le_refl _) ?_
  intro w' h1 h2
  have hlt := h1.lt w.heap.size rfl
  refine h w' ?_ ((Below.refl _ w).grown h2 (Nat.le_refl _) fun k hk => by cases hk) hlt.2
  have hz : (madeCells (Value.bool false).cells (n * 1)).toList = List.replicate n (Value.bool false) := by
    apply List.ext_getElem (by simp [madeCells])
    intro i _ _
    simp [madeCells, Value.cells, Nat.mod_one]
  rw [hz] at h1
  rcases h1.2 with ⟨e0, _⟩ | ⟨g, cap, cur, e0, _, hg, hc1, hc2, hc3, hc4⟩
  · cases e0
  · injection e0 with e0 _ e1
    injection e0 with e0
    injection e0 with e0
    subst e0; subst e1
    refine ⟨hlt.2, fun i hi => ?_, fun i => by simp [World.frozen?, hg]⟩
    have hi' : i < n := by simpa using hi
    have hget : cur.toList[i]? = some (Value.bool false) := by
      have : (cur.toList.take (n * 1))[i]? = some (Value.bool false) := by rw [hc4]; simp [hi']
      rw [List.getElem?_take] at this
      rw [if_pos (by omega)] at this
      exact this
    simp only [World.cell?, hg]
    have : cur[i]? = some (Value.bool false) := by rw [← hget]; simp
    rw [List.getD, List.getElem?_replicate, if_pos hi']
    simpa using this

/-- The model of values. -/
def modelL (V : List Int) : List Bool := V.map fun x => x == 1
theorem modelL_get (V : List Int) (i : Nat) : (modelL V).getD i false = (V.getD i 0 == 1) := by
  unfold modelL
  by_cases h : i < V.length
  · simp [List.getD, h]
  · simp [List.getD, h]
theorem getD_extB {xs ys : List Bool} (h : xs.length = ys.length) (k : ∀ j, j < xs.length → xs.getD j false = ys.getD j false) : xs = ys := by
  apply List.ext_getElem h
  intro i h1 h2
  have := k i h1
  simpa [List.getD, h1, h2] using this

def ModelPost (w : World) (V : List Int) (e : Ending) (w' : World) : Prop :=
  e = .returned (.slice (some ⟨w.heap.size, 0, none⟩) V.length V.length) ∧ BCel w' w.heap.size (modelL V) ∧ Below w.heap.size w w'

/-- The literal is true in the model. -/
def holdsL (bs : List Bool) (l : Int) : Bool := (decide (1 ≤ plc l) && decide (plc l < bs.length)) && (bs.getD (plc l) false == decide (0 < l))
def ofC (bs : List Bool) (c : List Int) : Bool := c.any (holdsL bs)
def ofL (cs : List (List Int)) (bs : List Bool) : Bool := cs.all (ofC bs)

theorem any_snoc (f : Int → Bool) (xs : List Int) (k : Nat) (h : k < xs.length) : (xs.take (k + 1)).any f = ((xs.take k).any f || f (xs.getD k 0)) := by
  rw [take_snoc xs k h, List.any_append]; simp
theorem any_true (f : Int → Bool) (xs : List Int) (k : Nat) (h : k < xs.length) (hf : f (xs.getD k 0) = true) : xs.any f = true := by
  rw [List.any_eq_true]
  exact ⟨xs[k], List.getElem_mem h, by simpa [List.getD, h] using hf⟩

theorem ofL_succ (cs : List (List Int)) (bs : List Bool) (k : Nat) (h : k < cs.length) : ofL (cs.take (k + 1)) bs = (ofL (cs.take k) bs && ofC bs (cs.getD k [])) := by
  unfold ofL
  rw [List.take_succ_eq_append_getElem h, List.all_append]; simp [List.getD, h]
theorem ofL_no (cs : List (List Int)) (bs : List Bool) (k : Nat) (h : k < cs.length) (hf : ofC bs (cs.getD k []) = false) : ofL cs bs = false := by
  unfold ofL
  rw [List.all_eq_false]
  exact ⟨cs[k], List.getElem_mem h, by rw [show cs[k] = cs.getD k [] by simp [List.getD, h], hf]; simp⟩
theorem row_inW {xss : List (List Int)} (h : ∀ xs ∈ xss, InW xs) (k : Nat) : InW (xss.getD k []) := by
  by_cases hk : k < xss.length
  · have := h _ (List.getElem_mem hk); simpa [List.getD, hk] using this
  · intro x hx; simp [List.getD, show xss.length ≤ k by omega] at hx

end Go.Proofs.Ytjlmooimdogmjaa

namespace Go.Proofs.Ytjlmooimdogmjaa
open Go.RowKit

def anyIs (V : List Int) (cs : List (List Int)) (x : Int) : Bool := cs.any fun c => decide ((clauseL V c).1 = x)
/-- What clauses are worth. -/
def allL (V : List Int) (cs : List (List Int)) : Int := if anyIs V cs 2 = true then 2 else if anyIs V cs 0 = true then 0 else 1
theorem anyIs_succ (V : List Int) (cs : List (List Int)) (x : Int) (k : Nat) (h : k < cs.length) : anyIs V (cs.take (k + 1)) x = (anyIs V (cs.take k) x || decide ((clauseL V (cs.getD k [])).1 = x)) := by
  unfold anyIs
  rw [List.take_succ_eq_append_getElem h, List.any_append]; simp [List.getD, h]
theorem anyIs_yes (V : List Int) (cs : List (List Int)) (x : Int) (k : Nat) (h : k < cs.length) (hf : (clauseL V (cs.getD k [])).1 = x) : anyIs V cs x = true := by
  unfold anyIs
  rw [List.any_eq_true]
  exact ⟨cs[k], List.getElem_mem h, by simpa [List.getD, h] using hf⟩

/-- The literal that a value says is true. -/
def known1 (v : Nat) (x : Int) : List Int := if x = 1 then [(v : Int)] else if x = 2 then [-(v : Int)] else []
def knownTo (V : List Int) (k : Nat) : List Int := (List.range k).flatMap fun i => known1 i (V.getD i 0)
def knownL (V : List Int) : List Int := knownTo V V.length
theorem knownTo_succ (V : List Int) (k : Nat) : knownTo V (k + 1) = knownTo V k ++ known1 k (V.getD k 0) := by
  unfold knownTo; rw [List.range_succ, List.flatMap_append]; simp
theorem known1_len (v : Nat) (x : Int) : (known1 v x).length ≤ 1 := by
  unfold known1
  split
  · simp
  · split <;> simp
theorem knownTo_len (V : List Int) : ∀ k, (knownTo V k).length ≤ k
  | 0 => by simp [knownTo]
  | k + 1 => by
    rw [knownTo_succ, List.length_append]
    have := knownTo_len V k
    have := known1_len k (V.getD k 0)
    omega

def KnownPost (w : World) (xs : List Int) (e : Ending) (w' : World) : Prop :=
  ∃ v, e = .returned v ∧ w'.ownsRow w.heap.size 3 1 v xs.length (xs.map (Value.int .i64)) ∧ Below w.heap.size w w'

end Go.Proofs.Ytjlmooimdogmjaa

namespace Go.Proofs.Ytjlmooimdogmjaa
open Go.RowKit

inductive Fol (C : List (List Int)) (D : List Int) : Int → Prop
  | dec {l : Int} : l ∈ D → Fol C D l
  | unit {c : List Int} {l : Int} : c ∈ C → l ∈ c → (∀ k ∈ c, k ≠ l → Fol C D (-k)) → Fol C D l
/-- Something is wrong. -/
def Wrg (C : List (List Int)) (D : List Int) : Prop := (∃ c ∈ C, ∀ k ∈ c, Fol C D (-k)) ∨ ∃ l, Fol C D l ∧ Fol C D (-l)
theorem Fol.mono {C C' : List (List Int)} {D D' : List Int} (hC : ∀ c ∈ C, c ∈ C') (hD : ∀ l ∈ D, l ∈ D') {l : Int} (h : Fol C D l) : Fol C' D' l := by
  induction h with
  | dec h => exact .dec (hD _ h)
  | unit h1 h2 _ ih => exact .unit (hC _ h1) h2 ih
theorem Wrg.mono {C C' : List (List Int)} {D D' : List Int} (hC : ∀ c ∈ C, c ∈ C') (hD : ∀ l ∈ D, l ∈ D') (h : Wrg C D) : Wrg C' D' := by
  rcases h with ⟨c, hc, h⟩ | ⟨l, h1, h2⟩
  · exact .inl ⟨c, hC c hc, fun k hk => (h k hk).mono hC hD⟩
  · exact .inr ⟨l, h1.mono hC hD, h2.mono hC hD⟩
/-- All literals have a variable of these. -/
def RgtC (n : Nat) (C : List (List Int)) : Prop := ∀ c ∈ C, ∀ l ∈ c, 1 ≤ plc l ∧ plc l < n
def RgtD (n : Nat) (D : List Int) : Prop := ∀ l ∈ D, 1 ≤ plc l ∧ plc l < n
theorem Fol.rgt {n : Nat} {C : List (List Int)} {D : List Int} (hC : RgtC n C) (hD : RgtD n D) {l : Int} (h : Fol C D l) : 1 ≤ plc l ∧ plc l < n := by
  cases h with
  | dec h => exact hD _ h
  | unit h1 h2 _ => exact hC _ h1 _ h2

/-! ### Values -/
theorem plc_zero' {l : Int} (h : 1 ≤ plc l) : l ≠ 0 := fun e => by subst e; rw [plc_zero] at h; omega
theorem valL_opp {V : List Int} (hV : Vals V) (l : Int) : valL V (-l) = opp (valL V l) := by
  have hr : rightB V (-l) = rightB V l := by unfold rightB; rw [plc_negate]
  unfold valL
  rw [hr, plc_negate]
  by_cases h : rightB V l = true
  · rw [if_pos h, if_pos h]
    have hp := (rightB_iff V l).1 h
    have hz := plc_zero' hp.1
    have h3 := hV.three (plc l)
    by_cases h0 : 0 < l
    · rw [if_neg (show ¬ 0 < -l by omega), if_pos h0]
    · rw [if_pos (show 0 < -l by omega), if_neg h0]
      rcases h3 with e | e | e <;> rw [e] <;> rfl
  · rw [if_neg h, if_neg h]; rfl
theorem val_false {V : List Int} (hV : Vals V) {l : Int} : valL V l = 2 ↔ valL V (-l) = 1 := by
  rw [valL_opp hV]
  rcases hV.val l with e | e | e <;> rw [e] <;> simp [opp]
theorem val_not_both {V : List Int} (hV : Vals V) {l : Int} (h1 : valL V l = 1) (h2 : valL V (-l) = 1) : False := by
  have := (val_false hV).2 h2
  omega

/-! ### A clause with one open literal -/
/-- Where the flag is up, two unlike literals are open. -/
def CTwo (V c : List Int) (s : Int × Int × Bool) : Prop := s.2.2 = true → ∃ a ∈ c, ∃ b ∈ c, a ≠ b ∧ valL V a = 0 ∧ valL V b = 0
theorem ctwo_step {V c : List Int} {s : Int × Int × Bool} (h : CTwo V c s) (hi : CInv V c s) (l : Int) : CTwo V (c ++ [l]) (cstep V s l) := by
  have keep : (∃ a ∈ c, ∃ b ∈ c, a ≠ b ∧ valL V a = 0 ∧ valL V b = 0) → ∃ a ∈ c ++ [l], ∃ b ∈ c ++ [l], a ≠ b ∧ valL V a = 0 ∧ valL V b = 0 := by
    rintro ⟨a, ha, b, hb, r⟩
    exact ⟨a, by simp [ha], b, by simp [hb], r⟩
  unfold cstep CTwo
  by_cases hv : valL V l = 0
  · rw [if_pos hv]
    intro hf
    simp only [Bool.or_eq_true, Bool.and_eq_true, Bool.not_eq_true', decide_eq_true_eq, decide_eq_false_iff_not] at hf
    rcases hf with hf | ⟨h0, hne⟩
    · exact keep (h hf)
    · rcases hi with ⟨e, _⟩ | ⟨_, i2, i3, _⟩
      · rw [e] at h0; cases h0
      · exact ⟨l, by simp, s.2.1, by simp [i2], hne, hv, i3⟩
  · rw [if_neg hv]
    exact fun hf => keep (h hf)
theorem ctwo_take (V c : List Int) : ∀ k, k ≤ c.length → CTwo V (c.take k) (cfold V (c.take k))
  | 0, _ => fun h => by simp [cfold] at h
  | k + 1, hk => by
    rw [cfold_succ V c k (by omega), take_snoc c k (by omega)]
    exact ctwo_step (ctwo_take V c k (by omega)) (cinv_take V c k (by omega)) _
theorem ctwo_all (V c : List Int) : CTwo V c (cfold V c) := by
  have := ctwo_take V c c.length (Nat.le_refl _)
  rwa [List.take_of_length_le (Nat.le_refl _)] at this
/-- If just one literal is open, and no other is true, it is told. -/
theorem clauseL_unit {V c : List Int} {l : Int} (hl : l ∈ c) (h0 : valL V l = 0) (hu : ∀ k ∈ c, k ≠ l → valL V k = 2) : (clauseL V c).2 = l := by
  have ht : hasTrue V c = false := (hasTrue_not V c).2 (fun k hk => by
    by_cases e : k = l
    · rw [e, h0]; decide
    · rw [hu k hk e]; decide)
  unfold clauseL
  rw [if_neg (by rw [ht]; simp)]
  rcases cinv_all V c with ⟨_, h⟩ | ⟨_, h2, h3, _⟩
  · exact absurd h0 (h l hl)
  · have e : (cfold V c).2.1 = l := by
      rcases Classical.em ((cfold V c).2.1 = l) with e | e
      · exact e
      · have := hu _ h2 e; omega
    have hf : (cfold V c).2.2 = false := by
      rcases Bool.eq_false_or_eq_true (cfold V c).2.2 with hf | hf
      · obtain ⟨a, ha, b, hb, hne, ea, eb⟩ := ctwo_all V c hf
        exfalso
        have h1 : a = l := by
          rcases Classical.em (a = l) with e | e
          · exact e
          · have := hu a ha e; omega
        have h2 : b = l := by
          rcases Classical.em (b = l) with e | e
          · exact e
          · have := hu b hb e; omega
        exact hne (h1.trans h2.symm)
      · exact hf
    simp only [hf, e]
    rfl

/-! ### Values that are closed -/
structure Drv (C : List (List Int)) (D : List Int) (V : List Int) : Prop where
  vals : Vals V
  der : ∀ l, valL V l = 1 → Fol C D l
structure Clo (C : List (List Int)) (D : List Int) (V : List Int) : Prop extends Drv C D V where
  start : ∀ l ∈ D, valL V l = 1
  cls : ∀ c ∈ C, (clauseL V c).1 ≠ 2 ∧ (clauseL V c).2 = 0
theorem Clo.all {C : List (List Int)} {D V : List Int} (h : Clo C D V) (hC : RgtC V.length C) {l : Int} (hf : Fol C D l) : valL V l = 1 := by
  induction hf with
  | dec hd => exact h.start _ hd
  | @unit c l hc hl _ ih =>
    obtain ⟨h1, h2⟩ := h.cls c hc
    have hk : ∀ k ∈ c, k ≠ l → valL V k = 2 := fun k hk hne => (val_false h.vals).2 (ih k hk hne)
    rcases h.vals.val l with e | e | e
    · have := clauseL_unit hl e hk
      rw [h2] at this
      exact absurd this.symm (plc_zero' (hC c hc l hl).1)
    · exact e
    · exfalso
      refine h1 (clauseL_false (fun k hk' => ?_))
      by_cases e' : k = l
      · rw [e']; exact e
      · exact hk k hk' e'
theorem Clo.right {C : List (List Int)} {D V : List Int} (h : Clo C D V) (hC : RgtC V.length C) : ¬ Wrg C D := by
  rintro (⟨c, hc, hk⟩ | ⟨l, h1, h2⟩)
  · exact (h.cls c hc).1 (clauseL_false (fun k hk' => (val_false h.vals).2 (h.all hC (hk k hk'))))
  · exact val_not_both h.vals (h.all hC h1) (h.all hC h2)
theorem Clo.iff {C : List (List Int)} {D V : List Int} (h : Clo C D V) (hC : RgtC V.length C) (l : Int) : valL V l = 1 ↔ Fol C D l := ⟨h.der l, h.all hC⟩
/-- A clause that is false, a unit one. -/
theorem Drv.wrong {C : List (List Int)} {D V : List Int} (h : Drv C D V) {c : List Int} (hc : c ∈ C) (h2 : (clauseL V c).1 = 2) : Wrg C D := by
  refine .inl ⟨c, hc, fun k hk => h.der _ ((val_false h.vals).1 ?_)⟩
  rcases h.vals.val k with e | e | e
  · have h1 : ∀ l ∈ c, valL V l ≠ 1 := fun l hl e1 => by rw [clauseL_true ⟨l, hl, e1⟩] at h2; cases h2
    have := clauseL_unk h1 ⟨k, hk, e⟩
    omega
  · rw [clauseL_true ⟨k, hk, e⟩] at h2; cases h2
  · exact e
theorem Drv.next {C : List (List Int)} {D V : List Int} (h : Drv C D V) {c : List Int} (hc : c ∈ C) (h0 : (clauseL V c).2 ≠ 0) : Fol C D (clauseL V c).2 := by
  obtain ⟨_, f2, f3, f4, f5⟩ := clauseL_one h0
  refine .unit hc f2 (fun k hk hne => h.der _ ((val_false h.vals).1 ?_))
  rcases h.vals.val k with e | e | e
  · exact absurd (f5 k hk e) hne
  · exact absurd e (f4 k hk)
  · exact e
theorem valL_setV {V : List Int} {l : Int} (hr : 1 ≤ plc l ∧ plc l < V.length) (h0 : valL V l ≠ 2) (k : Int) : valL (setV V l) k = if k = l then 1 else if k = -l then 2 else valL V k := by
  have hok : setOk V l = true := by unfold setOk; rw [(rightB_iff V l).2 hr]; simp [h0]
  have hz := plc_zero' hr.1
  unfold setV
  rw [if_pos hok, valL_set _ _ _ hr.1 hr.2]
  by_cases e : plc k = plc l
  · rw [if_pos e]
    rcases plc_eq e with e1 | e1
    · subst e1
      rw [if_pos rfl]
      by_cases hp : 0 < k
      · rw [if_pos hp, if_pos hp]
      · rw [if_neg hp, if_neg hp]; rfl
    · subst e1
      rw [if_neg (show ¬ -l = l by omega), if_pos rfl]
      by_cases hp : 0 < l
      · rw [if_neg (show ¬ 0 < -l by omega), if_pos hp]; rfl
      · rw [if_pos (show 0 < -l by omega), if_neg hp]
  · rw [if_neg e, if_neg (fun e1 => e (by rw [e1])), if_neg (fun e1 => e (by rw [e1, plc_negate]))]
theorem Drv.set {C : List (List Int)} {D V : List Int} (h : Drv C D V) {l : Int} (hr : 1 ≤ plc l ∧ plc l < V.length) (h0 : valL V l ≠ 2) (hf : Fol C D l) : Drv C D (setV V l) where
  vals := h.vals.setV l
  der := fun k hk => by
    rw [valL_setV hr h0] at hk
    split at hk
    · rename_i e; rw [e]; exact hf
    · split at hk
      · cases hk
      · exact h.der k hk
theorem setV_keep {V : List Int} {l k : Int} (hr : 1 ≤ plc l ∧ plc l < V.length) (h0 : valL V l ≠ 2) (h1 : valL V k = 1) (hV : Vals V) : valL (setV V l) k = 1 := by
  rw [valL_setV hr h0]
  split
  · rfl
  · split
    · rename_i e
      exfalso
      rw [e] at h1
      exact h0 ((val_false hV).2 h1)
    · exact h1

/-! ### How many are open -/
def zeros (V : List Int) : Nat := V.count 0
theorem zeros_set {V : List Int} {l : Int} (hr : 1 ≤ plc l ∧ plc l < V.length) (h0 : valL V l = 0) (hV : Vals V) : zeros (setV V l) < zeros V := by
  have hok : setOk V l = true := by unfold setOk; rw [(rightB_iff V l).2 hr]; simp [h0]
  have hg : V.getD (plc l) 0 = 0 := by
    unfold valL at h0
    rw [if_pos ((rightB_iff V l).2 hr)] at h0
    split at h0
    · exact h0
    · rcases hV.three (plc l) with e | e | e
      · exact e
      · rw [e] at h0; cases h0
      · rw [e] at h0; cases h0
  have he : V[plc l] = 0 := by simpa [List.getD, hr.2] using hg
  have hp : 0 < V.count 0 := List.count_pos_iff.2 (he ▸ List.getElem_mem hr.2)
  unfold zeros setV
  rw [if_pos hok, List.count_set hr.2, he]
  have : ¬ (if 0 < l then (1 : Int) else 2) = 0 := by split <;> decide
  simp [this]
  omega

/-! ### What is known, in order -/
theorem mem_known1 {v : Nat} {x l : Int} : l ∈ known1 v x ↔ (x = 1 ∧ l = (v : Int)) ∨ (x = 2 ∧ l = -(v : Int)) := by
  unfold known1
  by_cases h1 : x = 1
  · rw [if_pos h1]; simp [h1]
  · rw [if_neg h1]
    by_cases h2 : x = 2
    · rw [if_pos h2]; simp [h2]
    · rw [if_neg h2]; simp [h1, h2]
theorem mem_knownTo {V : List Int} {k : Nat} {l : Int} : l ∈ knownTo V k ↔ ∃ v, v < k ∧ l ∈ known1 v (V.getD v 0) := by
  unfold knownTo
  rw [List.mem_flatMap]
  simp only [List.mem_range]
theorem mem_knownL {V : List Int} (hV : Vals V) (l : Int) : l ∈ knownL V ↔ valL V l = 1 := by
  unfold knownL
  rw [mem_knownTo]
  constructor
  · rintro ⟨v, hv, h⟩
    rw [mem_known1] at h
    have hv1 : 1 ≤ v := by
      rcases Nat.eq_zero_or_pos v with e | e
      · subst e
        rw [hV.zero] at h
        omega
      · exact e
    have hpl : plc l = v := by
      unfold plc absI
      rcases h with ⟨_, e⟩ | ⟨_, e⟩ <;> rw [e] <;> split <;> omega
    unfold valL
    rw [if_pos ((rightB_iff V l).2 (by omega)), hpl]
    rcases h with ⟨e1, e2⟩ | ⟨e1, e2⟩
    · rw [if_pos (by omega), e1]
    · rw [if_neg (by omega), e1]; rfl
  · intro h
    unfold valL at h
    split at h
    · rename_i hr
      rw [rightB_iff] at hr
      have hp := plc_absI l
      refine ⟨plc l, hr.2, mem_known1.2 ?_⟩
      split at h
      · rename_i h0
        left
        refine ⟨h, ?_⟩
        unfold absI at hp
        split at hp <;> omega
      · rename_i h0
        right
        refine ⟨?_, ?_⟩
        · rcases hV.three (plc l) with e | e | e
          · rw [e] at h; cases h
          · rw [e] at h; cases h
          · exact e
        · unfold absI at hp
          split at hp <;> omega
    · cases h
theorem knownTo_pair (V : List Int) : ∀ k, (knownTo V k).Pairwise fun x y => absI x < absI y
  | 0 => by simp [knownTo]
  | k + 1 => by
    rw [knownTo_succ, List.pairwise_append]
    refine ⟨knownTo_pair V k, ?_, fun x hx y hy => ?_⟩
    · unfold known1
      split
      · simp
      · split <;> simp
    · rw [mem_knownTo] at hx
      obtain ⟨v, hv, hx⟩ := hx
      rw [mem_known1] at hx hy
      have h1 : absI x = (v : Int) := by unfold absI; rcases hx with ⟨_, e⟩ | ⟨_, e⟩ <;> rw [e] <;> split <;> omega
      have h2 : absI y = (k : Int) := by unfold absI; rcases hy with ⟨_, e⟩ | ⟨_, e⟩ <;> rw [e] <;> split <;> omega
      omega
theorem knownL_pair (V : List Int) : (knownL V).Pairwise fun x y => absI x < absI y := knownTo_pair V _
end Go.Proofs.Ytjlmooimdogmjaa
