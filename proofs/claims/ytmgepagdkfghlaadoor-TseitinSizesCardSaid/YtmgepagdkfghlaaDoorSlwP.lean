/- Plain facts: literals in a model; clauses as two masks of bits, values as a number's bits; who wins, the value, the first model by going through all. Nothing of the program. -/
import Derived.Test.YtmgepagdkfghlaaDoorPlain
import Derived.Laws.BitsLemmas
namespace Go.Proofs.YtmgepagdkfghlaaDoor
open Go.RowKit

def plc (l : Int) : Nat := (absI l).toNat
theorem plc_absI (l : Int) : (plc l : Int) = absI l := by unfold plc absI; split <;> omega
theorem plc_pos {l : Int} (h : 0 < l) : (plc l : Int) = l := by rw [plc_absI]; unfold absI; rw [if_neg (by omega)]
theorem plc_neg {l : Int} (h : l < 0) : (plc l : Int) = -l := by rw [plc_absI]; unfold absI; rw [if_pos h]
theorem plc_zero : plc 0 = 0 := by unfold plc absI; simp
def holdsL (bs : List Bool) (l : Int) : Bool := (decide (1 ≤ plc l) && decide (plc l < bs.length)) && (bs.getD (plc l) false == decide (0 < l))
def ofC (bs : List Bool) (c : List Int) : Bool := c.any (holdsL bs)
def ofL (cs : List (List Int)) (bs : List Bool) : Bool := cs.all (ofC bs)

/-- The first k bits of n, as values. -/
def bitsN (n k : Nat) : List Bool := (List.range k).map n.testBit
theorem bitsN_len (n k : Nat) : (bitsN n k).length = k := by simp [bitsN]
theorem bitsN_get (n k i : Nat) (h : i < k) : (bitsN n k).getD i false = n.testBit i := by simp [bitsN, List.getD, h]

/-- A clause as two masks, of the variables behind the first k. -/
def stepM (k : Nat) (d : Nat × Nat) (l : Int) : Nat × Nat :=
  if plc l ≤ k then d else if 0 < l then (d.1 ||| 2 ^ (plc l - k - 1), d.2) else (d.1, d.2 ||| 2 ^ (plc l - k - 1))
def afterM (k : Nat) (c : List Int) : Nat × Nat := c.foldl (stepM k) (0, 0)
theorem foldM_plus (k i : Nat) : ∀ (c : List Int) (d : Nat × Nat), (c.foldl (stepM k) d).1.testBit i = (d.1.testBit i || c.any fun l => decide (0 < l ∧ plc l = k + 1 + i))
  | [], d => by simp
  | l :: c, d => by
    rw [List.foldl_cons, foldM_plus k i c, List.any_cons, ← Bool.or_assoc]
    congr 1
    unfold stepM
    split
    · rename_i h
      rw [decide_eq_false (by omega), Bool.or_false]
    · split
      · rename_i h1 h2
        rw [Nat.testBit_or, Nat.testBit_two_pow]
        congr 1
        exact decide_eq_decide.2 (by omega)
      · rename_i h1 h2
        rw [decide_eq_false (by omega), Bool.or_false]
theorem foldM_minus (k i : Nat) : ∀ (c : List Int) (d : Nat × Nat), (c.foldl (stepM k) d).2.testBit i = (d.2.testBit i || c.any fun l => decide (l < 0 ∧ plc l = k + 1 + i))
  | [], d => by simp
  | l :: c, d => by
    rw [List.foldl_cons, foldM_minus k i c, List.any_cons, ← Bool.or_assoc]
    congr 1
    unfold stepM
    split
    · rename_i h
      rw [decide_eq_false (by omega), Bool.or_false]
    · split
      · rename_i h1 h2
        rw [decide_eq_false (by omega), Bool.or_false]
      · rename_i h1 h2
        have h3 : l < 0 := by
          have := plc_absI l
          unfold absI at this
          split at this <;> omega
        rw [Nat.testBit_or, Nat.testBit_two_pow]
        congr 1
        exact decide_eq_decide.2 (by omega)
theorem foldM_lt (k m : Nat) : ∀ (c : List Int) (d : Nat × Nat), (∀ l ∈ c, plc l ≤ k + m) → d.1 < 2 ^ m → d.2 < 2 ^ m → (c.foldl (stepM k) d).1 < 2 ^ m ∧ (c.foldl (stepM k) d).2 < 2 ^ m
  | [], d, _, h1, h2 => ⟨h1, h2⟩
  | l :: c, d, h, h1, h2 => by
    rw [List.foldl_cons]
    have hl := h l (by simp)
    refine foldM_lt k m c _ (fun y hy => h y (by simp [hy])) ?_ ?_
    · unfold stepM
      split
      · exact h1
      · split
        · exact Nat.or_lt_two_pow h1 (Nat.pow_lt_pow_right (by omega) (by omega))
        · exact h1
    · unfold stepM
      split
      · exact h2
      · split
        · exact h2
        · exact Nat.or_lt_two_pow h2 (Nat.pow_lt_pow_right (by omega) (by omega))
theorem afterM_lt {k m : Nat} {c : List Int} (h : ∀ l ∈ c, plc l ≤ k + m) : (afterM k c).1 < 2 ^ m ∧ (afterM k c).2 < 2 ^ m :=
  foldM_lt k m c (0, 0) h (Nat.two_pow_pos m) (Nat.two_pow_pos m)
theorem afterM_snoc (k : Nat) (c : List Int) (l : Int) : afterM k (c ++ [l]) = stepM k (afterM k c) l := by
  unfold afterM; rw [List.foldl_append]; rfl

theorem ofInt_wrap (z : BitVec 64) : BitVec.ofInt 64 (IntKind.i64.wrap (z.toNat : Int)) = z := by
  apply BitVec.eq_of_toNat_eq
  have := z.isLt
  rw [BitVec.toNat_ofInt, IntKind.wrap_i64]
  omega
theorem wrap_zero (z : BitVec 64) : IntKind.i64.wrap (z.toNat : Int) = 0 ↔ z = 0 := by
  have := z.isLt
  rw [IntKind.wrap_i64]
  constructor
  · intro h
    apply BitVec.eq_of_toNat_eq
    simp
    omega
  · rintro rfl
    decide
/-- A clause of masks has a literal that is true with the number's bits as values: in the program's own words. -/
def holdsM (d : Nat × Nat) (n : Nat) : Bool := bits .or .i64 (bits .and .i64 (n : Int) (d.1 : Int)) (bits .and .i64 (bits .xor .i64 (-1) (n : Int)) (d.2 : Int)) != 0
def holdsP (d : Nat × Nat) (n : Nat) : Prop := ∃ i, i < 64 ∧ ((d.1.testBit i = true ∧ n.testBit i = true) ∨ (d.2.testBit i = true ∧ n.testBit i = false))
theorem bv_ne (z : BitVec 64) : z ≠ 0 ↔ ∃ i, i < 64 ∧ z.getLsbD i = true := by
  constructor
  · intro h
    apply Classical.byContradiction
    intro h2
    apply h
    apply BitVec.eq_of_getLsbD_eq
    intro i hi
    simp
    cases e : z.getLsbD i
    · rfl
    · exact absurd ⟨i, hi, e⟩ h2
  · rintro ⟨i, _, h⟩ rfl
    simp at h
theorem bit_nat (n i : Nat) (hi : i < 64) : (BitVec.ofInt 64 (n : Int)).getLsbD i = n.testBit i := by
  rw [BitVec.ofInt_natCast, BitVec.getLsbD_ofNat, decide_eq_true hi, Bool.true_and]
theorem bit_ones (i : Nat) (hi : i < 64) : (BitVec.ofInt 64 (-1)).getLsbD i = true := by
  rw [show BitVec.ofInt 64 (-1) = BitVec.allOnes 64 by decide, BitVec.getLsbD_allOnes, decide_eq_true hi]
theorem holdsM_iff (d : Nat × Nat) (n : Nat) : holdsM d n = true ↔ holdsP d n := by
  have e : holdsM d n = true ↔ ((BitVec.ofInt 64 (n : Int) &&& BitVec.ofInt 64 (d.1 : Int)) ||| ((BitVec.ofInt 64 (-1) ^^^ BitVec.ofInt 64 (n : Int)) &&& BitVec.ofInt 64 (d.2 : Int))) ≠ 0 := by
    unfold holdsM
    rw [bne_iff_ne]
    show ¬ IntKind.i64.wrap (((BitVec.ofInt 64 (IntKind.i64.wrap ((BitVec.ofInt 64 (n : Int) &&& BitVec.ofInt 64 (d.1 : Int)).toNat : Int)) ||| BitVec.ofInt 64 (IntKind.i64.wrap ((BitVec.ofInt 64 (IntKind.i64.wrap ((BitVec.ofInt 64 (-1) ^^^ BitVec.ofInt 64 (n : Int)).toNat : Int)) &&& BitVec.ofInt 64 (d.2 : Int)).toNat : Int))).toNat : Int)) = 0 ↔ _
    rw [ofInt_wrap, ofInt_wrap, ofInt_wrap, wrap_zero]
  rw [e, bv_ne]
  unfold holdsP
  have key : ∀ i, i < 64 → (((BitVec.ofInt 64 (n : Int) &&& BitVec.ofInt 64 (d.1 : Int)) ||| ((BitVec.ofInt 64 (-1) ^^^ BitVec.ofInt 64 (n : Int)) &&& BitVec.ofInt 64 (d.2 : Int))).getLsbD i = true ↔ ((d.1.testBit i = true ∧ n.testBit i = true) ∨ (d.2.testBit i = true ∧ n.testBit i = false))) := fun i hi => by
    rw [BitVec.getLsbD_or, BitVec.getLsbD_and, BitVec.getLsbD_and, BitVec.getLsbD_xor, bit_nat n i hi, bit_nat _ i hi, bit_nat _ i hi, bit_ones i hi]
    cases n.testBit i <;> cases d.1.testBit i <;> cases d.2.testBit i <;> decide
  constructor
  · rintro ⟨i, hi, h⟩
    exact ⟨i, hi, (key i hi).1 h⟩
  · rintro ⟨i, hi, h⟩
    exact ⟨i, hi, (key i hi).2 h⟩
def tautM (d : Nat × Nat) : Bool := bits .and .i64 (d.1 : Int) (d.2 : Int) == 0
theorem tautM_no {d : Nat × Nat} (h : tautM d = false) (n : Nat) : holdsM d n = true := by
  rw [holdsM_iff]
  have e : (BitVec.ofInt 64 (d.1 : Int) &&& BitVec.ofInt 64 (d.2 : Int)) ≠ 0 := by
    unfold tautM at h
    rw [beq_eq_false_iff_ne] at h
    intro h2
    apply h
    show IntKind.i64.wrap ((BitVec.ofInt 64 (d.1 : Int) &&& BitVec.ofInt 64 (d.2 : Int)).toNat : Int) = 0
    rw [wrap_zero]
    exact h2
  rw [bv_ne] at e
  obtain ⟨i, hi, h⟩ := e
  rw [BitVec.getLsbD_and, bit_nat _ i hi, bit_nat _ i hi, Bool.and_eq_true] at h
  refine ⟨i, hi, ?_⟩
  cases e : n.testBit i
  · exact .inr ⟨h.2, rfl⟩
  · exact .inl ⟨h.1, rfl⟩

theorem getD_cons (b : Bool) (l : List Bool) (i : Nat) (h : 1 ≤ i) : (b :: l).getD i false = l.getD (i - 1) false := by
  obtain ⟨j, rfl⟩ : ∃ j, i = j + 1 := ⟨i - 1, by omega⟩
  simp [List.getD]
theorem getD_appL (a b : List Bool) (i : Nat) (h : i < a.length) : (a ++ b).getD i false = a.getD i false := by simp [List.getD, List.getElem?_append_left h]
theorem getD_appR (a b : List Bool) (i : Nat) (h : a.length ≤ i) : (a ++ b).getD i false = b.getD (i - a.length) false := by simp [List.getD, List.getElem?_append_right h]
/-- A clause's worth where the first variables have known values, and the others a number's bits. -/
theorem ofC_split (kn : List Bool) (n m : Nat) (c : List Int) (hm : m ≤ 64) (hl : ∀ l ∈ c, l ≠ 0 ∧ plc l ≤ kn.length + m) : ofC (false :: (kn ++ bitsN n m)) c = (ofC (false :: kn) c || holdsM (afterM kn.length c) n) := by
  have hp : ∀ l : Int, l ≠ 0 → 1 ≤ plc l := fun l h => by have := plc_absI l; unfold absI at this; split at this <;> omega
  rw [Bool.eq_iff_iff, Bool.or_eq_true, holdsM_iff]
  unfold ofC holdsP afterM
  simp only [List.any_eq_true, foldM_plus, foldM_minus]
  constructor
  · rintro ⟨l, hlc, h⟩
    obtain ⟨h0, h1⟩ := hl l hlc
    have h2 := hp l h0
    unfold holdsL at h
    simp only [Bool.and_eq_true, decide_eq_true_eq, beq_iff_eq] at h
    obtain ⟨⟨_, h3⟩, h4⟩ := h
    rw [getD_cons _ _ _ h2] at h4
    by_cases hk : plc l ≤ kn.length
    · refine .inl ⟨l, hlc, ?_⟩
      unfold holdsL
      rw [getD_appL _ _ _ (by omega)] at h4
      rw [getD_cons _ _ _ h2, h4]
      simp
      omega
    · refine .inr ⟨plc l - kn.length - 1, by omega, ?_⟩
      rw [getD_appR _ _ _ (by omega), bitsN_get _ _ _ (by omega), show plc l - 1 - kn.length = plc l - kn.length - 1 by omega] at h4
      rw [h4]
      by_cases hs : 0 < l
      · refine .inl ⟨?_, by simp [hs]⟩
        simp only [Nat.zero_testBit, Bool.false_or, List.any_eq_true, decide_eq_true_eq]
        exact ⟨l, hlc, hs, by omega⟩
      · refine .inr ⟨?_, by simp [hs]⟩
        simp only [Nat.zero_testBit, Bool.false_or, List.any_eq_true, decide_eq_true_eq]
        exact ⟨l, hlc, by omega, by omega⟩
  · rintro (⟨l, hlc, h⟩ | ⟨i, hi, h⟩)
    · obtain ⟨h0, h1⟩ := hl l hlc
      have h2 := hp l h0
      refine ⟨l, hlc, ?_⟩
      unfold holdsL at h ⊢
      simp only [Bool.and_eq_true, decide_eq_true_eq, beq_iff_eq, List.length_cons] at h ⊢
      obtain ⟨⟨_, h3⟩, h4⟩ := h
      rw [getD_cons _ _ _ h2] at h4 ⊢
      rw [getD_appL _ _ _ (by omega)]
      refine ⟨⟨h2, ?_⟩, h4⟩
      rw [List.length_append]
      omega
    · simp only [Nat.zero_testBit, Bool.false_or, List.any_eq_true, decide_eq_true_eq] at h
      rcases h with ⟨⟨l, hlc, hs, hq⟩, hb⟩ | ⟨⟨l, hlc, hs, hq⟩, hb⟩
      · obtain ⟨h0, h1⟩ := hl l hlc
        have h2 := hp l h0
        refine ⟨l, hlc, ?_⟩
        unfold holdsL
        rw [getD_cons _ _ _ h2, getD_appR _ _ _ (by omega), bitsN_get _ _ _ (by omega), show plc l - 1 - kn.length = i by omega, hb]
        simp [bitsN_len, hs]
        omega
      · obtain ⟨h0, h1⟩ := hl l hlc
        have h2 := hp l h0
        refine ⟨l, hlc, ?_⟩
        unfold holdsL
        rw [getD_cons _ _ _ h2, getD_appR _ _ _ (by omega), bitsN_get _ _ _ (by omega), show plc l - 1 - kn.length = i by omega, hb]
        simp [bitsN_len, show ¬ 0 < l by omega]
        omega
/-- A clause that rest keeps. -/
def keepM (kn : List Bool) (c : List Int) : Bool := tautM (afterM kn.length c) && !ofC (false :: kn) c
def restL (kn : List Bool) (m : List (List Int)) : List (Nat × Nat) := (m.filter (keepM kn)).map (afterM kn.length)
theorem rest_hold (kn : List Bool) (m : List (List Int)) (n k : Nat) (hk : k ≤ 64) (hl : ∀ c ∈ m, ∀ l ∈ c, l ≠ 0 ∧ plc l ≤ kn.length + k) : ((restL kn m).all fun d => holdsM d n) = ofL m (false :: (kn ++ bitsN n k)) := by
  induction m with
  | nil => rfl
  | cons c m ih =>
    have ih := ih fun c' h => hl c' (by simp [h])
    unfold restL ofL at *
    rw [List.all_cons, List.filter_cons, ofC_split kn n k c hk (hl c (by simp)), ← ih]
    unfold keepM
    cases h1 : tautM (afterM kn.length c) with
    | false => rw [if_neg (by simp), tautM_no h1]; simp
    | true =>
      cases h2 : ofC (false :: kn) c with
      | true => rw [if_neg (by simp)]; simp
      | false => rw [if_pos (by simp)]; simp
theorem all_same {ds es : List (Nat × Nat)} (h : ∀ d, d ∈ ds ↔ d ∈ es) (f : Nat × Nat → Bool) : ds.all f = es.all f := by
  rw [Bool.eq_iff_iff, List.all_eq_true, List.all_eq_true]
  exact ⟨fun a d hd => a d ((h d).2 hd), fun a d hd => a d ((h d).1 hd)⟩
/-- Two numbers' bits, one behind the other. -/
theorem or_nat (i o k : Nat) (ho : o < 2 ^ k) : i * 2 ^ k ||| o = i * 2 ^ k + o := by
  rw [Nat.mul_comm]
  exact (Nat.two_pow_add_eq_or_of_lt ho i).symm
theorem bits_or_i64 (x y : Nat) (hx : x < 4611686018427387904) (hy : y < 4611686018427387904) : bits .or .i64 (x : Int) (y : Int) = ((x ||| y : Nat) : Int) := by
  have h : x ||| y < 2 ^ 62 := Nat.or_lt_two_pow (by omega) (by omega)
  show IntKind.i64.wrap ((BitVec.ofInt 64 (x : Int) ||| BitVec.ofInt 64 (y : Int)).toNat : Int) = _
  rw [BitVec.ofInt_natCast, BitVec.ofInt_natCast, BitVec.toNat_or, BitVec.toNat_ofNat, BitVec.toNat_ofNat, Nat.mod_eq_of_lt (by omega), Nat.mod_eq_of_lt (by omega), IntKind.wrap_i64]
  omega
theorem bitsN_join (i o k m : Nat) (ho : o < 2 ^ k) : bitsN (i * 2 ^ k + o) (k + m) = bitsN o k ++ bitsN i m := by
  apply List.ext_getElem
  · simp [bitsN]
  · intro j h1 h2
    simp only [bitsN, List.getElem_map, List.getElem_range, List.getElem_append, List.length_map, List.length_range]
    rw [Nat.mul_comm, Nat.testBit_two_pow_mul_add _ ho]
    by_cases hj : j < k
    · rw [if_pos hj, dif_pos hj]
    · rw [if_neg hj, dif_neg hj]
/-- The outer player wins with these values; the game's value. -/
def winsB (m : List (List Int)) (ex : Bool) (ov : List Bool) (inner : Nat) : Bool := (List.range (2 ^ inner)).all fun i => ofL m (false :: (ov ++ bitsN i inner)) == ex
def valueB (m : List (List Int)) (ex : Bool) (outer inner : Nat) : Bool := if (List.range (2 ^ outer)).any (fun o => winsB m ex (bitsN o outer) inner) then ex else !ex
/-- The first number whose bits make all clauses true. -/
def satN (m : List (List Int)) (vars : Nat) : Option Nat := (List.range (2 ^ vars)).find? fun n => ofL m (false :: bitsN n vars)
end Go.Proofs.YtmgepagdkfghlaaDoor
