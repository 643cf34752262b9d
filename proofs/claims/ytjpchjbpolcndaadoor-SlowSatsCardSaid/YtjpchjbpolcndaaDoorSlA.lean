/- Plain facts: literals in a model; clauses as two masks of bits, values as a number's bits; who wins, the value, the first model by going through all. Nothing of the program. · Contracts of assign.holds, assign.Of, skolemref1.Of. Conditions: the literals lie strictly inside the 64 bits. · Contracts of slow.clause.holds, slow.hold, slow.table.wins: clauses as masks, held against numbers. Conditions: the masks are small, so are the counts of variables. · The contract of slow.after: a clause's literals behind the known ones, as two masks. Conditions: the slice reads as 64-bit ints, none the least; the variables behind the known ones are few. · The contract of slices.Compact on a row of masks of the call's own: what it leaves has the same members. Conditions: how the row lies in memory. · The contract of slices.Compact on a row of masks of the call's own: the library's two loops are walked; what it leaves has the same members. Conditions: how the row lies in memory. -/
import Derived.Test.YtjpchjbpolcndaaDoorPlain
import Derived.Laws.BitsLemmas
import Derived.Test.YtjpchjbpolcndaaDoorCheckP
import Derived.Test.YtjpchjbpolcndaaDoorSmall
import Derived.Test.YtjpchjbpolcndaaDoorGen
import Derived.Test.YtjpchjbpolcndaaDoorRename
import Derived.Test.YtjpchjbpolcndaaDoorBlkM
import Derived.BigQuiet
import Derived.IntWalk
import Derived.Deep.RegionWith
import Derived.Lib.SliceRun
import Derived.BigRegion
namespace Go.Proofs.YtjpchjbpolcndaaDoor
open Go.RowKit

def plc (l : Int) : Nat := (absI l).toNat
theorem plc_absI (l : Int) : (plc l : Int) = absI l := by unfold plc absI; split <;> omega
theorem plc_pos {l : Int} (h : 0 < l) : (plc l : Int) = l := by rw [plc_absI]; unfold absI; rw [if_neg (by omega)]
theorem plc_neg {l : Int} (h : l < 0) : (plc l : Int) = -l := by rw [plc_absI]; unfold absI; rw [if_pos h]
theorem plc_zero : plc 0 = 0 := by unfold plc absI; simp
def holdsL (bs : List Bool) (l : Int) : Bool := (decide (1 ≤ plc l) && decide (plc l < bs.length)) && (bs.getD (plc l) false == decide (0 < l))
def ofC (bs : List Bool) (c : List Int) : Bool := c.any (holdsL bs)
def ofL (cs : List (List Int)) (bs : List Bool) : Bool := cs.all (ofC bs)

/-- The first k bits of n, as values. -/
def bitsN (n k : Nat) : List Bool := (List.range k).map n.testBit
theorem bitsN_len (n k : Nat) : (bitsN n k).length = k := by simp [bitsN]
theorem bitsN_get (n k i : Nat) (h : i < k) : (bitsN n k).getD i false = n.testBit i := by simp [bitsN, List.getD, h]

/-- A clause as two masks, of the variables behind the first k. -/
def stepM (k : Nat) (d : Nat × Nat) (l : Int) : Nat × Nat :=
  if plc l ≤ k then d else if 0 < l then (d.1 ||| 2 ^ (plc l - k - 1), d.2) else (d.1, d.2 ||| 2 ^ (plc l - k - 1))
def afterM (k : Nat) (c : List Int) : Nat × Nat := c.foldl (stepM k) (0, 0)
theorem foldM_plus (k i : Nat) : ∀ (c : List Int) (d : Nat × Nat), (c.foldl (stepM k) d).1.testBit i = (d.1.testBit i || c.any fun l => decide (0 < l ∧ plc l = k + 1 + i))
  | [], d => by simp
  | l :: c, d => by
    rw [List.foldl_cons, foldM_plus k i c, List.any_cons, ← Bool.or_assoc]
    congr 1
    unfold stepM
    split
    · rename_i h
      rw [decide_eq_false (by omega), Bool.or_false]
    · split
      · rename_i h1 h2
        rw [Nat.testBit_or, Nat.testBit_two_pow]
        congr 1
        exact decide_eq_decide.2 (by omega)
      · rename_i h1 h2
        rw [decide_eq_false (by omega), Bool.or_false]
theorem foldM_minus (k i : Nat) : ∀ (c : List Int) (d : Nat × Nat), (c.foldl (stepM k) d).2.testBit i = (d.2.testBit i || c.any fun l => decide (l < 0 ∧ plc l = k + 1 + i))
  | [], d => by simp
  | l :: c, d => by
    rw [List.foldl_cons, foldM_minus k i c, List.any_cons, ← Bool.or_assoc]
    congr 1
    unfold stepM
    split
    · rename_i h
      rw [decide_eq_false (by omega), Bool.or_false]
    · split
      · rename_i h1 h2
        rw [decide_eq_false (by omega), Bool.or_false]
      · rename_i h1 h2
        have h3 : l < 0 := by
          have := plc_absI l
          unfold absI at this
          split at this <;> omega
        rw [Nat.testBit_or, Nat.testBit_two_pow]
        congr 1
        exact decide_eq_decide.2 (by omega)
theorem foldM_lt (k m : Nat) : ∀ (c : List Int) (d : Nat × Nat), (∀ l ∈ c, plc l ≤ k + m) → d.1 < 2 ^ m → d.2 < 2 ^ m → (c.foldl (stepM k) d).1 < 2 ^ m ∧ (c.foldl (stepM k) d).2 < 2 ^ m
  | [], d, _, h1, h2 => ⟨h1, h2⟩
  | l :: c, d, h, h1, h2 => by
    rw [List.foldl_cons]
    have hl := h l (by simp)
    refine foldM_lt k m c _ (fun y hy => h y (by simp [hy])) ?_ ?_
    · unfold stepM
      split
      · exact h1
      · split
        · exact Nat.or_lt_two_pow h1 (Nat.pow_lt_pow_right (by omega) (by omega))
        · exact h1
    · unfold stepM
      split
      · exact h2
      · split
        · exact h2
        · exact Nat.or_lt_two_pow h2 (Nat.pow_lt_pow_right (by omega) (by omega))
theorem afterM_lt {k m : Nat} {c : List Int} (h : ∀ l ∈ c, plc l ≤ k + m) : (afterM k c).1 < 2 ^ m ∧ (afterM k c).2 < 2 ^ m :=
  foldM_lt k m c (0, 0) h (Nat.two_pow_pos m) (Nat.two_pow_pos m)
theorem afterM_snoc (k : Nat) (c : List Int) (l : Int) : afterM k (c ++ [l]) = stepM k (afterM k c) l := by
  unfold afterM; rw [List.foldl_append]; rfl

theorem ofInt_wrap (z : BitVec 64) : BitVec.ofInt 64 (IntKind.i64.wrap (z.toNat : Int)) = z := by
  apply BitVec.eq_of_toNat_eq
  have := z.isLt
  rw [BitVec.toNat_ofInt, IntKind.wrap_i64]
  omega
theorem wrap_zero (z : BitVec 64) : IntKind.i64.wrap (z.toNat : Int) = 0 ↔ z = 0 := by
  have := z.isLt
  rw [IntKind.wrap_i64]
  constructor
  · intro h
    apply BitVec.eq_of_toNat_eq
    simp
    omega
  · rintro rfl
    decide
/-- A clause of masks has a literal that is true with the number's bits as values: in the program's own words. -/
def holdsM (d : Nat × Nat) (n : Nat) : Bool := bits .or .i64 (bits .and .i64 (n : Int) (d.1 : Int)) (bits .and .i64 (bits .xor .i64 (-1) (n : Int)) (d.2 : Int)) != 0
def holdsP (d : Nat × Nat) (n : Nat) : Prop := ∃ i, i < 64 ∧ ((d.1.testBit i = true ∧ n.testBit i = true) ∨ (d.2.testBit i = true ∧ n.testBit i = false))
theorem bv_ne (z : BitVec 64) : z ≠ 0 ↔ ∃ i, i < 64 ∧ z.getLsbD i = true := by
  constructor
  · intro h
    apply Classical.byContradiction
    intro h2
    apply h
    apply BitVec.eq_of_getLsbD_eq
    intro i hi
    simp
    cases e : z.getLsbD i
    · rfl
    · exact absurd ⟨i, hi, e⟩ h2
  · rintro ⟨i, _, h⟩ rfl
    simp at h
theorem bit_nat (n i : Nat) (hi : i < 64) : (BitVec.ofInt 64 (n : Int)).getLsbD i = n.testBit i := by
  rw [BitVec.ofInt_natCast, BitVec.getLsbD_ofNat, decide_eq_true hi, Bool.true_and]
theorem bit_ones (i : Nat) (hi : i < 64) : (BitVec.ofInt 64 (-1)).getLsbD i = true := by
  rw [show BitVec.ofInt 64 (-1) = BitVec.allOnes 64 by decide, BitVec.getLsbD_allOnes, decide_eq_true hi]
theorem holdsM_iff (d : Nat × Nat) (n : Nat) : holdsM d n = true ↔ holdsP d n := by
  have e : holdsM d n = true ↔ ((BitVec.ofInt 64 (n : Int) &&& BitVec.ofInt 64 (d.1 : Int)) ||| ((BitVec.ofInt 64 (-1) ^^^ BitVec.ofInt 64 (n : Int)) &&& BitVec.ofInt 64 (d.2 : Int))) ≠ 0 := by
    unfold holdsM
    rw [bne_iff_ne]
    show ¬ IntKind.i64.wrap (((BitVec.ofInt 64 (IntKind.i64.wrap ((BitVec.ofInt 64 (n : Int) &&& BitVec.ofInt 64 (d.1 : Int)).toNat : Int)) ||| BitVec.ofInt 64 (IntKind.i64.wrap ((BitVec.ofInt 64 (IntKind.i64.wrap ((BitVec.ofInt 64 (-1) ^^^ BitVec.ofInt 64 (n : Int)).toNat : Int)) &&& BitVec.ofInt 64 (d.2 : Int)).toNat : Int))).toNat : Int)) = 0 ↔ _
    rw [ofInt_wrap, ofInt_wrap, ofInt_wrap, wrap_zero]
  rw [e, bv_ne]
  unfold holdsP
  have key : ∀ i, i < 64 → (((BitVec.ofInt 64 (n : Int) &&& BitVec.ofInt 64 (d.1 : Int)) ||| ((BitVec.ofInt 64 (-1) ^^^ BitVec.ofInt 64 (n : Int)) &&& BitVec.ofInt 64 (d.2 : Int))).getLsbD i = true ↔ ((d.1.testBit i = true ∧ n.testBit i = true) ∨ (d.2.testBit i = true ∧ n.testBit i = false))) := fun i hi => by
    rw [BitVec.getLsbD_or, BitVec.getLsbD_and, BitVec.getLsbD_and, BitVec.getLsbD_xor, bit_nat n i hi, bit_nat _ i hi, bit_nat _ i hi, bit_ones i hi]
    cases n.testBit i <;> cases d.1.testBit i <;> cases d.2.testBit i <;> decide
  constructor
  · rintro ⟨i, hi, h⟩
    exact ⟨i, hi, (key i hi).1 h⟩
  · rintro ⟨i, hi, h⟩
    exact ⟨i, hi, (key i hi).2 h⟩
def tautM (d : Nat × Nat) : Bool := bits .and .i64 (d.1 : Int) (d.2 : Int) == 0
theorem tautM_no {d : Nat × Nat} (h : tautM d = false) (n : Nat) : holdsM d n = true := by
  rw [holdsM_iff]
  have e : (BitVec.ofInt 64 (d.1 : Int) &&& BitVec.ofInt 64 (d.2 : Int)) ≠ 0 := by
    unfold tautM at h
    rw [beq_eq_false_iff_ne] at h
    intro h2
    apply h
    show IntKind.i64.wrap ((BitVec.ofInt 64 (d.1 : Int) &&& BitVec.ofInt 64 (d.2 : Int)).toNat : Int) = 0
    rw [wrap_zero]
    exact h2
  rw [bv_ne] at e
  obtain ⟨i, hi, h⟩ := e
  rw [BitVec.getLsbD_and, bit_nat _ i hi, bit_nat _ i hi, Bool.and_eq_true] at h
  refine ⟨i, hi, ?_⟩
  cases e : n.testBit i
  · exact .inr ⟨h.2, rfl⟩
  · exact .inl ⟨h.1, rfl⟩

theorem getD_cons (b : Bool) (l : List Bool) (i : Nat) (h : 1 ≤ i) : (b :: l).getD i false = l.getD (i - 1) false := by
  obtain ⟨j, rfl⟩ : ∃ j, i = j + 1 := ⟨i - 1, by omega⟩
  simp [List.getD]
theorem getD_appL (a b : List Bool) (i : Nat) (h : i < a.length) : (a ++ b).getD i false = a.getD i false := by simp [List.getD, List.getElem?_append_left h]
theorem getD_appR (a b : List Bool) (i : Nat) (h : a.length ≤ i) : (a ++ b).getD i false = b.getD (i - a.length) false := by simp [List.getD, List.getElem?_append_right h]
/-- A clause's worth where the first variables have known values, and the others a number's bits. -/
theorem ofC_split (kn : List Bool) (n m : Nat) (c : List Int) (hm : m ≤ 64) (hl : ∀ l ∈ c, l ≠ 0 ∧ plc l ≤ kn.length + m) : ofC (false :: (kn ++ bitsN n m)) c = (ofC (false :: kn) c || holdsM (afterM kn.length c) n) := by
  have hp : ∀ l : Int, l ≠ 0 → 1 ≤ plc l := fun l h => by have := plc_absI l; unfold absI at this; split at this <;> omega
  rw [Bool.eq_iff_iff, Bool.or_eq_true, holdsM_iff]
  unfold ofC holdsP afterM
  simp only [List.any_eq_true, foldM_plus, foldM_minus]
  constructor
  · rintro ⟨l, hlc, h⟩
    obtain ⟨h0, h1⟩ := hl l hlc
    have h2 := hp l h0
    unfold holdsL at h
    simp only [Bool.and_eq_true, decide_eq_true_eq, beq_iff_eq] at h
    obtain ⟨⟨_, h3⟩, h4⟩ := h
    rw [getD_cons _ _ _ h2] at h4
    by_cases hk : plc l ≤ kn.length
    · refine .inl ⟨l, hlc, ?_⟩
      unfold holdsL
      rw [getD_appL _ _ _ (by omega)] at h4
      rw [getD_cons _ _ _ h2, h4]
      simp
      omega
    · refine .inr ⟨plc l - kn.length - 1, by omega, ?_⟩
      rw [getD_appR _ _ _ (by omega), bitsN_get _ _ _ (by omega), show plc l - 1 - kn.length = plc l - kn.length - 1 by omega] at h4
      rw [h4]
      by_cases hs : 0 < l
      · refine .inl ⟨?_, by simp [hs]⟩
        simp only [Nat.zero_testBit, Bool.false_or, List.any_eq_true, decide_eq_true_eq]
        exact ⟨l, hlc, hs, by omega⟩
      · refine .inr ⟨?_, by simp [hs]⟩
        simp only [Nat.zero_testBit, Bool.false_or, List.any_eq_true, decide_eq_true_eq]
        exact ⟨l, hlc, by omega, by omega⟩
  · rintro (⟨l, hlc, h⟩ | ⟨i, hi, h⟩)
    · obtain ⟨h0, h1⟩ := hl l hlc
      have h2 := hp l h0
      refine ⟨l, hlc, ?_⟩
      unfold holdsL at h ⊢
      simp only [Bool.and_eq_true, decide_eq_true_eq, beq_iff_eq, List.length_cons] at h ⊢
      obtain ⟨⟨_, h3⟩, h4⟩ := h
      rw [getD_cons _ _ _ h2] at h4 ⊢
      rw [getD_appL _ _ _ (by omega)]
      refine ⟨⟨h2, ?_⟩, h4⟩
      rw [List.length_append]
      omega
    · simp only [Nat.zero_testBit, Bool.false_or, List.any_eq_true, decide_eq_true_eq] at h
      rcases h with ⟨⟨l, hlc, hs, hq⟩, hb⟩ | ⟨⟨l, hlc, hs, hq⟩, hb⟩
      · obtain ⟨h0, h1⟩ := hl l hlc
        have h2 := hp l h0
        refine ⟨l, hlc, ?_⟩
        unfold holdsL
        rw [getD_cons _ _ _ h2, getD_appR _ _ _ (by omega), bitsN_get _ _ _ (by omega), show plc l - 1 - kn.length = i by omega, hb]
        simp [bitsN_len, hs]
        omega
      · obtain ⟨h0, h1⟩ := hl l hlc
        have h2 := hp l h0
        refine ⟨l, hlc, ?_⟩
        unfold holdsL
        rw [getD_cons _ _ _ h2, getD_appR _ _ _ (by omega), bitsN_get _ _ _ (by omega), show plc l - 1 - kn.length = i by omega, hb]
        simp [bitsN_len, show ¬ 0 < l by omega]
        omega
/-- A clause that rest keeps. -/
def keepM (kn : List Bool) (c : List Int) : Bool := tautM (afterM kn.length c) && !ofC (false :: kn) c
def restL (kn : List Bool) (m : List (List Int)) : List (Nat × Nat) := (m.filter (keepM kn)).map (afterM kn.length)
theorem rest_hold (kn : List Bool) (m : List (List Int)) (n k : Nat) (hk : k ≤ 64) (hl : ∀ c ∈ m, ∀ l ∈ c, l ≠ 0 ∧ plc l ≤ kn.length + k) : ((restL kn m).all fun d => holdsM d n) = ofL m (false :: (kn ++ bitsN n k)) := by
  induction m with
  | nil => rfl
  | cons c m ih =>
    have ih := ih fun c' h => hl c' (by simp [h])
    unfold restL ofL at *
    rw [List.all_cons, List.filter_cons, ofC_split kn n k c hk (hl c (by simp)), ← ih]
    unfold keepM
    cases h1 : tautM (afterM kn.length c) with
    | false => rw [if_neg (by simp), tautM_no h1]; simp
    | true =>
      cases h2 : ofC (false :: kn) c with
      | true => rw [if_neg (by simp)]; simp
      | false => rw [if_pos (by simp)]; simp
theorem all_same {ds es : List (Nat × Nat)} (h : ∀ d, d ∈ ds ↔ d ∈ es) (f : Nat × Nat → Bool) : ds.all f = es.all f := by
  rw [Bool.eq_iff_iff, List.all_eq_true, List.all_eq_true]
  exact ⟨fun a d hd => a d ((h d).2 hd), fun a d hd => a d ((h d).1 hd)⟩
/-- Two numbers' bits, one behind the other. -/
theorem or_nat (i o k : Nat) (ho : o < 2 ^ k) : i * 2 ^ k ||| o = i * 2 ^ k + o := by
  rw [Nat.mul_comm]
  exact (Nat.two_pow_add_eq_or_of_lt ho i).symm
theorem bits_or_i64 (x y : Nat) (hx : x < 4611686018427387904) (hy : y < 4611686018427387904) : bits .or .i64 (x : Int) (y : Int) = ((x ||| y : Nat) : Int) := by
  have h : x ||| y < 2 ^ 62 := Nat.or_lt_two_pow (by omega) (by omega)
  show IntKind.i64.wrap ((BitVec.ofInt 64 (x : Int) ||| BitVec.ofInt 64 (y : Int)).toNat : Int) = _
  rw [BitVec.ofInt_natCast, BitVec.ofInt_natCast, BitVec.toNat_or, BitVec.toNat_ofNat, BitVec.toNat_ofNat, Nat.mod_eq_of_lt (by omega), Nat.mod_eq_of_lt (by omega), IntKind.wrap_i64]
  omega
theorem bitsN_join (i o k m : Nat) (ho : o < 2 ^ k) : bitsN (i * 2 ^ k + o) (k + m) = bitsN o k ++ bitsN i m := by
  apply List.ext_getElem
  · simp [bitsN]
  · intro j h1 h2
    simp only [bitsN, List.getElem_map, List.getElem_range, List.getElem_append, List.length_map, List.length_range]
    rw [Nat.mul_comm, Nat.testBit_two_pow_mul_add _ ho]
    by_cases hj : j < k
    · rw [if_pos hj, dif_pos hj]
    · rw [if_neg hj, dif_neg hj]
/-- The outer player wins with these values; the game's value. -/
def winsB (m : List (List Int)) (ex : Bool) (ov : List Bool) (inner : Nat) : Bool := (List.range (2 ^ inner)).all fun i => ofL m (false :: (ov ++ bitsN i inner)) == ex
def valueB (m : List (List Int)) (ex : Bool) (outer inner : Nat) : Bool := if (List.range (2 ^ outer)).any (fun o => winsB m ex (bitsN o outer) inner) then ex else !ex
/-- The first number whose bits make all clauses true. -/
def satN (m : List (List Int)) (vars : Nat) : Option Nat := (List.range (2 ^ vars)).find? fun n => ofL m (false :: bitsN n vars)
end Go.Proofs.YtjpchjbpolcndaaDoor

namespace Go.Proofs.YtjpchjbpolcndaaDoor
open Go.RowKit

/-- The value v is a slice of bools that reads as bs. -/
abbrev BoolRow (w : World) (v : Value) (bs : List Bool) : Prop := RowG Value.bool false w v bs
theorem any_snoc (f : Int → Bool) (xs : List Int) (k : Nat) (h : k < xs.length) : (xs.take (k + 1)).any f = ((xs.take k).any f || f (xs.getD k 0)) := by
  rw [take_snoc xs k h, List.any_append]; simp
theorem any_true (f : Int → Bool) (xs : List Int) (k : Nat) (h : k < xs.length) (hf : f (xs.getD k 0) = true) : xs.any f = true := by
  rw [List.any_eq_true]
  exact ⟨xs[k], List.getElem_mem h, by simpa [List.getD, h] using hf⟩


set_option maxRecDepth 4000 in
set_option maxHeartbeats 2000000 in
theorem holds_any (u m : Value) (xs : List Int) (bs : List Bool) (w : World) (hu : Row w u xs) (hm : BoolRow w m bs) (hxs : InW xs) :
    Calls Tryd.prog 86 #[u, m] w fun e w' => e = .returned (.bool (ofC bs xs)) ∧ w = w' := by
  obtain ⟨a, c, rfl, hxc, hcm, hx⟩ := hu
  obtain ⟨a', c', rfl, hyc, hcm', hy⟩ := hm
  unfold maxLen at hcm hcm'
  have HX := Lib.hid hx; clear hx
  have HY := Lib.hid hy; clear hy
  have HW := Lib.hid hxs; clear hxs
  generalize hN : xs.length = n at *
  have HN := Lib.hid hN; clear hN
  go_enter Tryd.func86, Tryd.ntmps86
  go_wp2_with fail
  go_loop [6, 9] (fun _ i => ∃ k : Nat, k ≤ n ∧ i = .int .i64 k ∧ Hid ((xs.take k).any (holdsL bs) = false)) (fun _ i => n - (intOf i).toNat)
  case atStart => exact ⟨0, Nat.zero_le _, rfl, by simp [Hid]⟩
  case round =>
    obtain ⟨k, hk, rfl, HQ⟩ := hrel
    by_cases hlt : k < n
    · obtain ⟨b, off, ha, hb, hc⟩ := HX.out.resolve_left (by omega)
      subst ha
      have g1 := hc k hlt
      clear hc hb
      have hkl : k < xs.length := by rw [HN.out]; exact hlt
      have hyb := HW.out.get k
      have HU := Lib.hid (any_snoc (holdsL bs) xs k hkl)
      have HG := Lib.hid (any_true (holdsL bs) xs k hkl)
      generalize xs.getD k 0 = y at *
      obtain ⟨hy1, hy2⟩ := hyb
      have HI := Lib.hid (fun W => is_any y ((bs.length : Int) - 1) W hy1 hy2)
      have HV := Lib.hid (fun W => var_any y W hy1 hy2)
      have HH := Lib.hid (show holdsL bs y = ((decide (1 ≤ plc y) && decide (plc y < bs.length)) && (bs.getD (plc y) false == decide (0 < y))) from rfl)
      rw [← plc_absI y] at HI HV
      generalize plc y = m at *
      by_cases hr : 1 ≤ m ∧ m < bs.length
      · obtain ⟨hr1, hr2⟩ := hr
        have hb1 : (decide (1 ≤ (m : Int)) && decide ((m : Int) ≤ (bs.length : Int) - 1)) = true := by simp; omega
        have hb2 : (decide (1 ≤ m) && decide (m < bs.length)) = true := by simp; omega
        rw [hb1] at HI
        rw [hb2] at HH
        obtain ⟨b2, off2, ha2, _, hc2⟩ := HY.out.resolve_left (by omega)
        subst ha2
        have g2 := hc2 m hr2
        clear hc2 hb1 hb2
        generalize bs.getD m false = t at *
        generalize bs.length = r at *
        by_cases hp : 0 < y
        · have hpd : decide (0 < y) = true := by simp [hp]
          rw [hpd] at HH
          cases t with
          | true =>
            have HR := Lib.hid (show ofC bs xs = true from HG.out (by rw [HH.out]; rfl))
            clear HG HU HQ
            go_wp2_with (first | (go_at_call 74; refine (HI.out _).mono ?_; rintro e w' ⟨rfl, rfl⟩) | (go_at_call 58; refine (HV.out _).mono ?_; rintro e w' ⟨rfl, rfl⟩))
            go_ret
            exact ⟨ret_bool HR.out.symm, rfl⟩
          | false =>
            have HU' := Lib.hid (show (xs.take (k + 1)).any (holdsL bs) = false by rw [HU.out, HQ.out, HH.out]; rfl)
            clear HG HU
            go_wp2_with (first | (go_at_call 74; refine (HI.out _).mono ?_; rintro e w' ⟨rfl, rfl⟩) | (go_at_call 58; refine (HV.out _).mono ?_; rintro e w' ⟨rfl, rfl⟩))
            go_round
            case rel => exact ⟨k + 1, by omega, by go_num, HU'.out⟩
            case measure => simp [intOf]; omega
        · have hpd : decide (0 < y) = false := by simp; omega
          rw [hpd] at HH
          cases t with
          | false =>
            have HR := Lib.hid (show ofC bs xs = true from HG.out (by rw [HH.out]; rfl))
            clear HG HU HQ
            go_wp2_with (first | (go_at_call 74; refine (HI.out _).mono ?_; rintro e w' ⟨rfl, rfl⟩) | (go_at_call 58; refine (HV.out _).mono ?_; rintro e w' ⟨rfl, rfl⟩))
            go_ret
            exact ⟨ret_bool HR.out.symm, rfl⟩
          | true =>
            have HU' := Lib.hid (show (xs.take (k + 1)).any (holdsL bs) = false by rw [HU.out, HQ.out, HH.out]; rfl)
            clear HG HU
            go_wp2_with (first | (go_at_call 74; refine (HI.out _).mono ?_; rintro e w' ⟨rfl, rfl⟩) | (go_at_call 58; refine (HV.out _).mono ?_; rintro e w' ⟨rfl, rfl⟩))
            go_round
            case rel => exact ⟨k + 1, by omega, by go_num, HU'.out⟩
            case measure => simp [intOf]; omega
      · have hb1 : (decide (1 ≤ (m : Int)) && decide ((m : Int) ≤ (bs.length : Int) - 1)) = false := by simp; omega
        have hb2 : (decide (1 ≤ m) && decide (m < bs.length)) = false := by simp; omega
        rw [hb1] at HI
        rw [hb2] at HH
        have HU' := Lib.hid (show (xs.take (k + 1)).any (holdsL bs) = false by rw [HU.out, HQ.out, HH.out]; rfl)
        clear hb1 hb2 HG HU hr
        generalize bs.length = r at *
        go_wp2_with (first | (go_at_call 74; refine (HI.out _).mono ?_; rintro e w' ⟨rfl, rfl⟩) | (go_at_call 58; refine (HV.out _).mono ?_; rintro e w' ⟨rfl, rfl⟩))
        go_round
        case rel => exact ⟨k + 1, by omega, by go_num, HU'.out⟩
        case measure => simp [intOf]; omega
    · have hkn : k = n := by omega
      have HA := Lib.hid (show ofC bs xs = false by have := HQ.out; rwa [hkn, List.take_of_length_le (by rw [HN.out]; exact Nat.le_refl _)] at this)
      clear hlt HQ
      go_wp2
      go_ret
      exact ⟨ret_bool HA.out.symm, rfl⟩

theorem ofL_succ (cs : List (List Int)) (bs : List Bool) (k : Nat) (h : k < cs.length) : ofL (cs.take (k + 1)) bs = (ofL (cs.take k) bs && ofC bs (cs.getD k [])) := by
  unfold ofL
  rw [List.take_succ_eq_append_getElem h, List.all_append]; simp [List.getD, h]
theorem ofL_no (cs : List (List Int)) (bs : List Bool) (k : Nat) (h : k < cs.length) (hf : ofC bs (cs.getD k []) = false) : ofL cs bs = false := by
  unfold ofL
  rw [List.all_eq_false]
  exact ⟨cs[k], List.getElem_mem h, by rw [show cs[k] = cs.getD k [] by simp [List.getD, h], hf]; simp⟩
theorem row_inW {xss : List (List Int)} (h : ∀ xs ∈ xss, InW xs) (k : Nat) : InW (xss.getD k []) := by
  by_cases hk : k < xss.length
  · have := h _ (List.getElem_mem hk); simpa [List.getD, hk] using this
  · intro x hx; simp [List.getD, show xss.length ≤ k by omega] at hx

set_option maxRecDepth 4000 in
set_option maxHeartbeats 2000000 in
theorem of_any (a : Option Addr) (cap : Nat) (xss : List (List Int)) (m : Value) (bs : List Bool) (w : World) (hr : RowsAt w a cap xss) (hm : BoolRow w m bs) (hxs : ∀ xs ∈ xss, InW xs) :
    Calls Tryd.prog 70 #[.slice a xss.length cap, m] w fun e w' => e = .returned (.bool (ofL xss bs)) ∧ w = w' := by
  obtain ⟨hc1, hc2, hr⟩ := hr
  unfold maxLen at hc2
  have HR := Lib.hid hr; clear hr
  have HM := Lib.hid hm
  have HW := Lib.hid hxs; clear hxs
  obtain ⟨a2, c2, rfl, _, _, _⟩ := hm
  generalize hN : xss.length = n at *
  have HN := Lib.hid hN; clear hN
  go_enter Tryd.func70, Tryd.ntmps70
  go_wp2_with fail
  go_loop [6, 9] (fun _ i => ∃ k : Nat, k ≤ n ∧ i = .int .i64 k ∧ Hid (ofL (xss.take k) bs = true)) (fun _ i => n - (intOf i).toNat)
  case atStart => exact ⟨0, Nat.zero_le _, rfl, by simp [Hid, ofL]⟩
  case round =>
    obtain ⟨k, hk, rfl, HQ⟩ := hrel
    by_cases hlt : k < n
    · obtain ⟨b, off, ha, hb, hc⟩ := HR.out.resolve_left (by omega)
      subst ha
      obtain ⟨v, g1, hv⟩ := hc k hlt
      clear hc
      have hkl : k < xss.length := by rw [HN.out]; exact hlt
      have HT := Lib.hid (ofL_succ xss bs k hkl)
      have HF := Lib.hid (ofL_no xss bs k hkl)
      have HNE := Lib.hid (holds_any v _ _ bs w hv HM.out (row_inW HW.out k))
      generalize xss.getD k [] = ys at *
      obtain ⟨av, cv, rfl, _⟩ := hv
      cases hy : ofC bs ys with
      | false =>
        rw [hy] at HNE
        have HF' := Lib.hid (HF.out hy)
        clear HF hy HT
        go_wp2_with (go_at_call 86; refine HNE.out.mono ?_; rintro e w' ⟨rfl, rfl⟩)
        go_ret
        exact ⟨ret_bool HF'.out.symm, rfl⟩
      | true =>
        rw [hy] at HNE
        have HT' := Lib.hid (show ofL (xss.take (k + 1)) bs = true by rw [HT.out, HQ.out, hy]; rfl)
        clear HF hy HT
        go_wp2_with (go_at_call 86; refine HNE.out.mono ?_; rintro e w' ⟨rfl, rfl⟩)
        go_round
        case rel => exact ⟨k + 1, by omega, by go_num, HT'.out⟩
        case measure => simp [intOf]; omega
    · have hkn : k = n := by omega
      have HA := Lib.hid (show ofL xss bs = true by have := HQ.out; rwa [hkn, List.take_of_length_le (by rw [HN.out]; exact Nat.le_refl _)] at this)
      clear hlt HQ
      go_wp2
      go_ret
      exact ⟨ret_bool HA.out.symm, rfl⟩
set_option maxRecDepth 4000 in
set_option maxHeartbeats 4000000 in
theorem refOf_any (a : Option Addr) (cap : Nat) (xss : List (List Int)) (mv : Value) (bs : List Bool) (w : World) (hr : RowsAt w a cap xss) (hm : BoolRow w mv bs) (hxs : ∀ xs ∈ xss, InW xs) :
    Calls Tryd.prog 25 #[.slice a xss.length cap, mv] w fun e w' => e = .returned (.bool (ofL xss bs)) ∧ w = w' := by
  obtain ⟨hc1, hc2, hr⟩ := hr
  unfold maxLen at hc2
  have HR := Lib.hid hr; clear hr
  have HW := Lib.hid hxs; clear hxs
  obtain ⟨a2, c2, rfl, hm1, hm2, hm3⟩ := hm
  unfold maxLen at hm2
  have HM := Lib.hid hm3; clear hm3
  generalize hN : xss.length = n at *
  have HN := Lib.hid hN; clear hN
  generalize hR : bs.length = r at *
  have HRB := Lib.hid hR; clear hR
  go_enter Tryd.func25, Tryd.ntmps25
  go_wp2_with fail
  go_loop [5, 6, 7, 8] (fun i _ _ _ => ∃ k : Nat, k ≤ n ∧ i = .int .i64 k ∧ Hid (ofL (xss.take k) bs = true)) (fun i _ _ _ => n - (intOf i).toNat)
  case atStart => exact ⟨0, Nat.zero_le _, rfl, by simp [Hid, ofL]⟩
  case round =>
    obtain ⟨k, hk, rfl, HQ⟩ := hrel
    by_cases hlt : k < n
    · obtain ⟨b, off, ha, hb, hc⟩ := HR.out.resolve_left (by omega)
      subst ha
      obtain ⟨v, g1, hv⟩ := hc k hlt
      clear hc
      have hkl : k < xss.length := by rw [HN.out]; exact hlt
      have HT := Lib.hid (ofL_succ xss bs k hkl)
      have HF := Lib.hid (ofL_no xss bs k hkl)
      have HWk := Lib.hid (row_inW HW.out k)
      generalize xss.getD k [] = ys at *
      obtain ⟨av, cv, rfl, hv1, hv2, hv3⟩ := hv
      unfold maxLen at hv2
      have HY := Lib.hid hv3; clear hv3
      generalize hL : ys.length = m at *
      have HL := Lib.hid hL; clear hL
      go_wp2_with fail
      go_loop [6, 7, 8] (fun is j _ => ∃ (q : Nat) (t : Bool), q ≤ m ∧ is = .bool t ∧ j = .int .i64 q ∧ Hid ((ys.take q).any (holdsL bs) = t)) (fun _ j _ => m - (intOf j).toNat)
      case atStart => exact ⟨0, false, Nat.zero_le _, rfl, rfl, by simp [Hid]⟩
      case round =>
        obtain ⟨q, t, hq, rfl, rfl, HP⟩ := hrel
        by_cases hql : q < m
        · obtain ⟨b3, off3, ha3, hb3, hc3⟩ := HY.out.resolve_left (by omega)
          subst ha3
          have g2 := hc3 q hql
          clear hc3
          have hyb := HWk.out.get q
          have HU := Lib.hid (any_snoc (holdsL bs) ys q (by rw [HL.out]; exact hql))
          generalize ys.getD q 0 = y at *
          obtain ⟨hy1, hy2⟩ := hyb
          have HH := Lib.hid (show holdsL bs y = ((decide (1 ≤ plc y) && decide (plc y < bs.length)) && (bs.getD (plc y) false == decide (0 < y))) from rfl)
          rw [HRB.out] at HH
          rw [HP.out] at HU
          by_cases hyp : 0 < y
          · have hpm := plc_pos hyp
            have hyn : ¬ y < 0 := by omega
            generalize plc y = z at *
            subst hpm
            have hzd : decide (0 < (z : Int)) = true := by rw [decide_eq_true_iff]; exact hyp
            rw [hzd] at HH
            clear hzd
            by_cases hz : z < r
            · obtain ⟨b4, off4, ha4, hb4, hc4⟩ := HM.out.resolve_left (by omega)
              subst ha4
              have g3 := hc4 z hz
              clear hc4
              generalize bs.getD z false = x at *
              have hz1 : (decide (1 ≤ z) && decide (z < r)) = true := by simp; omega
              rw [hz1] at HH
              clear hz1
              cases x with
              | true =>
                have HU' := Lib.hid (show (ys.take (q + 1)).any (holdsL bs) = true by rw [HU.out, HH.out]; simp)
                clear HU
                go_wp2
                go_round
                case rel => exact ⟨q + 1, true, by omega, rfl, by go_num, HU'.out⟩
                case measure => simp [intOf]; omega
              | false =>
                have HU' := Lib.hid (show (ys.take (q + 1)).any (holdsL bs) = t by rw [HU.out, HH.out]; simp)
                clear HU
                go_wp2
                go_round
                case rel => exact ⟨q + 1, t, by omega, rfl, by go_num, HU'.out⟩
                case measure => simp [intOf]; omega
            · have hz1 : (decide (1 ≤ z) && decide (z < r)) = false := by simp; omega
              rw [hz1] at HH
              clear hz1
              have HU' := Lib.hid (show (ys.take (q + 1)).any (holdsL bs) = t by rw [HU.out, HH.out]; simp)
              clear HU
              go_wp2
              go_round
              case rel => exact ⟨q + 1, t, by omega, rfl, by go_num, HU'.out⟩
              case measure => simp [intOf]; omega
          · by_cases hyn : y < 0
            · have hpm := plc_neg hyn
              have hzd : decide (0 < y) = false := by simp; omega
              rw [hzd] at HH
              clear hzd
              generalize plc y = z at *
              obtain rfl : y = -(z : Int) := by omega
              clear hpm
              by_cases hz : z < r
              · obtain ⟨b4, off4, ha4, hb4, hc4⟩ := HM.out.resolve_left (by omega)
                subst ha4
                have g3 := hc4 z hz
                clear hc4
                generalize bs.getD z false = x at *
                have hz1 : (decide (1 ≤ z) && decide (z < r)) = true := by simp; omega
                rw [hz1] at HH
                clear hz1
                cases x with
                | false =>
                  have HU' := Lib.hid (show (ys.take (q + 1)).any (holdsL bs) = true by rw [HU.out, HH.out]; simp)
                  clear HU
                  go_wp2
                  go_round
                  case rel => exact ⟨q + 1, true, by omega, rfl, by go_num, HU'.out⟩
                  case measure => simp [intOf]; omega
                | true =>
                  have HU' := Lib.hid (show (ys.take (q + 1)).any (holdsL bs) = t by rw [HU.out, HH.out]; simp)
                  clear HU
                  go_wp2
                  go_round
                  case rel => exact ⟨q + 1, t, by omega, rfl, by go_num, HU'.out⟩
                  case measure => simp [intOf]; omega
              · have hz1 : (decide (1 ≤ z) && decide (z < r)) = false := by simp; omega
                rw [hz1] at HH
                clear hz1
                have HU' := Lib.hid (show (ys.take (q + 1)).any (holdsL bs) = t by rw [HU.out, HH.out]; simp)
                clear HU
                go_wp2
                go_round
                case rel => exact ⟨q + 1, t, by omega, rfl, by go_num, HU'.out⟩
                case measure => simp [intOf]; omega
            · obtain rfl : y = 0 := by omega
              rw [plc_zero] at HH
              have HU' := Lib.hid (show (ys.take (q + 1)).any (holdsL bs) = t by rw [HU.out, HH.out]; simp)
              clear HU
              go_wp2
              go_round
              case rel => exact ⟨q + 1, t, by omega, rfl, by go_num, HU'.out⟩
              case measure => simp [intOf]; omega
        · have hqm : q = m := by omega
          have hl : ys.take q = ys := List.take_of_length_le (by rw [HL.out]; omega)
          have HO := Lib.hid (show ofC bs ys = t by have := HP.out; rwa [hl] at this)
          clear hl hql
          cases t with
          | false =>
            have HF' := Lib.hid (HF.out HO.out)
            clear HF HT
            go_wp2
            go_ret
            exact ⟨ret_bool HF'.out.symm, rfl⟩
          | true =>
            have HT' := Lib.hid (show ofL (xss.take (k + 1)) bs = true by rw [HT.out, HQ.out, HO.out]; rfl)
            clear HF HT
            go_wp2
            go_round
            case rel => exact ⟨k + 1, by omega, by go_num, HT'.out⟩
            case measure => simp [intOf]; omega
    · have hkn : k = n := by omega
      have HA := Lib.hid (show ofL xss bs = true by have := HQ.out; rwa [hkn, List.take_of_length_le (by rw [HN.out]; exact Nat.le_refl _)] at this)
      clear hlt HQ
      go_wp2
      go_ret
      exact ⟨ret_bool HA.out.symm, rfl⟩
end Go.Proofs.YtjpchjbpolcndaaDoor

namespace Go.Proofs.YtjpchjbpolcndaaDoor
open Go.RowKit

/-- The value v is a slice of clauses that reads as these masks. -/
def RowM (w : World) (v : Value) (ds : List (Nat × Nat)) : Prop :=
  ∃ a c, v = .slice a ds.length c ∧ ds.length ≤ c ∧ c ≤ maxLen ∧ (ds.length = 0 ∨ ∃ b off, a = some ⟨b, off, none⟩ ∧ b < w.heap.size ∧ ∀ i, i < ds.length → w.cell? ⟨b, off + i * 2, none⟩ = some (.int .i64 ((ds.getD i (0, 0)).1 : Int)) ∧ w.cell? ⟨b, off + i * 2 + 1, none⟩ = some (.int .i64 ((ds.getD i (0, 0)).2 : Int)))
theorem RowM.keep {w w' : World} {v : Value} {ds : List (Nat × Nat)} (h : RowM w v ds) (hb : Below w.heap.size w w') : RowM w' v ds := by
  obtain ⟨a, c, e, h1, h2, h3⟩ := h
  refine ⟨a, c, e, h1, h2, ?_⟩
  rcases h3 with h3 | ⟨b, off, e, hlt, hc⟩
  · exact .inl h3
  · exact .inr ⟨b, off, e, Nat.lt_of_lt_of_le hlt hb.size, fun i hi => ⟨(hb.cell (p := ⟨b, off + i * 2, none⟩) hlt).trans (hc i hi).1, (hb.cell (p := ⟨b, off + i * 2 + 1, none⟩) hlt).trans (hc i hi).2⟩⟩
theorem RowM.nil (w : World) : RowM w (.slice none 0 0) [] := ⟨none, 0, rfl, Nat.le_refl _, by unfold maxLen; omega, .inl rfl⟩

set_option maxHeartbeats 1000000 in
theorem clHolds_any (P M n : Nat) (w : World) :
    Calls Tryd.prog 75 #[.agg #[.int .i64 (P : Int), .int .i64 (M : Int)], .int .i64 (n : Int)] w fun e w' => e = .returned (.bool (holdsM (P, M) n)) ∧ Below w.heap.size w w' := by
  have HB := Lib.hid (fun o => show Below w.heap.size w (w.alloc o) from (Below.refl _ w).alloc (Nat.le_refl _) _)
  unfold holdsM
  go_enter Tryd.func75, Tryd.ntmps75
  go_wp2_with fail
  go_ret
  exact ⟨rfl, HB.out _⟩

/-- All clauses hold at the number. -/
def holdD (ds : List (Nat × Nat)) (n : Nat) : Bool := ds.all fun d => holdsM d n
theorem holdD_no {ds : List (Nat × Nat)} {n k : Nat} (hk : k < ds.length) (h : holdsM (ds.getD k (0, 0)) n = false) : holdD ds n = false := by
  unfold holdD
  rw [List.all_eq_false]
  exact ⟨ds[k], List.getElem_mem hk, by simpa [List.getD, hk] using h⟩
theorem holdD_yes {ds : List (Nat × Nat)} {n : Nat} (h : ∀ j, j < ds.length → holdsM (ds.getD j (0, 0)) n = true) : holdD ds n = true := by
  unfold holdD
  rw [List.all_eq_true]
  intro d hd
  obtain ⟨j, hj, rfl⟩ := List.getElem_of_mem hd
  simpa [List.getD, hj] using h j hj

set_option maxHeartbeats 2000000 in
theorem hold_any (v : Value) (ds : List (Nat × Nat)) (n : Nat) (w : World) (hv : RowM w v ds) :
    Calls Tryd.prog 49 #[v, .int .i64 (n : Int)] w fun e w' => e = .returned (.bool (holdD ds n)) ∧ Below w.heap.size w w' := by
  obtain ⟨a, c, rfl, hc1, hc2, hr⟩ := hv
  unfold maxLen at hc2
  have HR := Lib.hid hr; clear hr
  have HNO := Lib.hid (fun k (hk : k < ds.length) h => @holdD_no ds n k hk h)
  have HYES := Lib.hid (@holdD_yes ds n)
  generalize holdD ds n = r at *
  generalize hN : ds.length = m at *
  have HN := Lib.hid hN; clear hN
  go_enter Tryd.func49, Tryd.ntmps49
  go_wp2_with fail
  go_loopw [6, 9] (fun _ i wr => ∃ k : Nat, k ≤ m ∧ i = .int .i64 k ∧ Below w.heap.size w wr ∧ Hid (∀ j, j < k → holdsM (ds.getD j (0, 0)) n = true)) (fun _ i _ => m - (intOf i).toNat)
  case atStart => exact ⟨0, Nat.zero_le _, rfl, Below.refl _ _, fun j hj => absurd hj (Nat.not_lt_zero _)⟩
  case round =>
    obtain ⟨k, hk, rfl, hbr, HQ⟩ := hrel
    by_cases hlt : k < m
    · obtain ⟨b, off, ha, hb, hc⟩ := HR.out.resolve_left (by omega)
      subst ha
      obtain ⟨g1, g2⟩ := hc k hlt
      have g1' := (hbr.cell (p := ⟨b, off + k * 2, none⟩) hb).trans g1
      have g2' := (hbr.cell (p := ⟨b, off + k * 2 + 1, none⟩) hb).trans g2
      have HNK := Lib.hid (HNO.out k hlt)
      have HQ1 : Hid (holdsM (ds.getD k (0, 0)) n = true → ∀ j, j < k + 1 → holdsM (ds.getD j (0, 0)) n = true) := fun h j hj => by
        by_cases e : j = k
        · subst e; exact h
        · exact HQ.out j (by omega)
      clear g1 g2 hc
      generalize ds.getD k (0, 0) = d at *
      obtain ⟨P, M⟩ := d
      have HH := Lib.hid (fun W => clHolds_any P M n W)
      have HBR := Lib.hid hbr
      have HBA := Lib.hid (fun o => hbr.alloc hbr.size o)
      clear hbr
      cases hh : holdsM (P, M) n with
      | false =>
        rw [hh] at HH
        have HRF := Lib.hid (HNK.out hh)
        clear hh HQ1
        go_wp2_with (go_at_call 75; refine (HH.out _).mono ?_; rintro e w2 ⟨rfl, hw2⟩)
        go_ret
        exact ⟨ret_bool HRF.out.symm, (HBA.out _).trans (hw2.mono (HBA.out _).size)⟩
      | true =>
        rw [hh] at HH
        have HQ2 := Lib.hid (HQ1.out hh)
        clear hh HQ1 HNK
        go_wp2_with (go_at_call 75; refine (HH.out _).mono ?_; rintro e w2 ⟨rfl, hw2⟩)
        go_roundw
        case rel => exact ⟨k + 1, by omega, by go_num, (HBA.out _).trans (hw2.mono (HBA.out _).size), HQ2.out⟩
        case measure => simp [intOf]; omega
    · have hkn : k = m := by omega
      subst hkn
      have HA := Lib.hid (HYES.out HQ.out)
      have HBR := Lib.hid hbr
      clear hlt hbr HQ HYES HNO
      go_wp2_with fail
      go_ret
      exact ⟨ret_bool HA.out.symm, HBR.out⟩

/-- The outer player's values o win: no inner ones turn it. -/
def winD (ds : List (Nat × Nat)) (ex : Bool) (outer inner o : Nat) : Bool := (List.range (2 ^ inner)).all fun i => holdD ds (i * 2 ^ outer + o) == ex
theorem winD_no {ds : List (Nat × Nat)} {ex : Bool} {outer inner o i : Nat} (hi : i < 2 ^ inner) (h : holdD ds (i * 2 ^ outer + o) ≠ ex) : winD ds ex outer inner o = false := by
  unfold winD
  rw [List.all_eq_false]
  exact ⟨i, List.mem_range.2 hi, by simpa using h⟩
theorem winD_yes {ds : List (Nat × Nat)} {ex : Bool} {outer inner o : Nat} (h : ∀ i, i < 2 ^ inner → holdD ds (i * 2 ^ outer + o) = ex) : winD ds ex outer inner o = true := by
  unfold winD
  rw [List.all_eq_true]
  intro i hi
  simpa using h i (List.mem_range.1 hi)
theorem or_join (i o outer : Nat) (ho : o < 2 ^ outer) (hp : i * 2 ^ outer + o < 4611686018427387904) : bits .or .i64 ((i * 2 ^ outer : Nat) : Int) (o : Int) = ((i * 2 ^ outer + o : Nat) : Int) := by
  rw [bits_or_i64 _ _ (by omega) (by omega), or_nat i o outer ho]
end Go.Proofs.YtjpchjbpolcndaaDoor

namespace Go.Proofs.YtjpchjbpolcndaaDoor
open Go.RowKit

theorem getD_memL (l : List Int) (j : Nat) (h : j < l.length) : l.getD j 0 ∈ l := by simp [List.getD, h]
/-- The two masks in the block q, and the block ahead of it. -/
def AftC (W : World) (q : Nat) (P M : Nat) : Prop :=
  W.cell? ⟨q + 1, 0, none⟩ = some (.int .i64 (P : Int)) ∧ W.cell? ⟨q + 1, 1, none⟩ = some (.int .i64 (M : Int)) ∧ W.cell? ⟨q, 0, none⟩ = some (.int .i64 0) ∧ W.cell? ⟨q, 1, none⟩ = some (.int .i64 0) ∧ (∀ j, W.frozen? ⟨q, j, none⟩ = false) ∧ (∀ j, W.frozen? ⟨q + 1, j, none⟩ = false)
theorem AftC.setP {W : World} {q P M : Nat} (h : AftC W q P M) (P' : Nat) : AftC (W.setCell ⟨q + 1, 0, none⟩ (.int .i64 (P' : Int))) q P' M := by
  obtain ⟨h1, h2, h3, h4, h5, h6⟩ := h
  have o : ∀ b j, (b ≠ q + 1 ∨ j ≠ 0) → (W.setCell ⟨q + 1, 0, none⟩ (.int .i64 (P' : Int))).cell? ⟨b, j, none⟩ = W.cell? ⟨b, j, none⟩ := fun b j h => World.cell?_setCell_other _ _ _ _ (fun e => by injection e with e1 e2; omega)
  exact ⟨World.cell?_setCell_same _ _ _ h1, (o _ _ (by omega)).trans h2, (o _ _ (by omega)).trans h3, (o _ _ (by omega)).trans h4, fun j => (World.frozen?_setCell _ _ _ _).trans (h5 j), fun j => (World.frozen?_setCell _ _ _ _).trans (h6 j)⟩
theorem AftC.setM {W : World} {q P M : Nat} (h : AftC W q P M) (M' : Nat) : AftC (W.setCell ⟨q + 1, 1, none⟩ (.int .i64 (M' : Int))) q P M' := by
  obtain ⟨h1, h2, h3, h4, h5, h6⟩ := h
  have o : ∀ b j, (b ≠ q + 1 ∨ j ≠ 1) → (W.setCell ⟨q + 1, 1, none⟩ (.int .i64 (M' : Int))).cell? ⟨b, j, none⟩ = W.cell? ⟨b, j, none⟩ := fun b j h => World.cell?_setCell_other _ _ _ _ (fun e => by injection e with e1 e2; omega)
  exact ⟨(o _ _ (by omega)).trans h1, World.cell?_setCell_same _ _ _ h2, (o _ _ (by omega)).trans h3, (o _ _ (by omega)).trans h4, fun j => (World.frozen?_setCell _ _ _ _).trans (h5 j), fun j => (World.frozen?_setCell _ _ _ _).trans (h6 j)⟩
theorem pow_lt20 (i : Nat) (h : i ≤ 19) : 2 ^ i < 1048576 := Nat.lt_of_le_of_lt (Nat.pow_le_pow_right (by omega) h) (by decide)
theorem shl_one (i : Nat) (h : i ≤ 20) : IntKind.i64.wrap ((1 : Int) * 2 ^ i) = ((2 ^ i : Nat) : Int) := by
  have h1 : 2 ^ i ≤ 1048576 := Nat.le_trans (Nat.pow_le_pow_right (by omega) h) (by decide)
  rw [IntKind.wrap_i64, show ((2 : Int) ^ i) = ((2 ^ i : Nat) : Int) by simp]
  generalize 2 ^ i = t at *
  omega

set_option maxRecDepth 4000 in
set_option maxHeartbeats 4000000 in
theorem after_any (v : Value) (cs : List Int) (kn : Nat) (w : World) (hv : Row w v cs) (hb : InW cs) (hk : kn ≤ 1000000) (hp : ∀ l ∈ cs, plc l ≤ kn + 20) :
    Calls Tryd.prog 69 #[v, .int .i64 (kn : Int)] w fun e w' => e = .returned (.agg #[.int .i64 ((afterM kn cs).1 : Int), .int .i64 ((afterM kn cs).2 : Int)]) ∧ Below w.heap.size w w' := by
  obtain ⟨a, c, rfl, hc1, hc2, hr⟩ := hv
  unfold maxLen at hc2
  have HR := Lib.hid hr; clear hr
  have HW := Lib.hid hb
  have HP : Hid (∀ k, k < cs.length → plc (cs.getD k 0) ≤ kn + 20) := fun k hk => hp _ (getD_memL _ k hk)
  have HT : Hid (∀ k, k < cs.length → afterM kn (cs.take (k + 1)) = stepM kn (afterM kn (cs.take k)) (cs.getD k 0)) := fun k hk => by
    rw [take_snoc cs k hk, afterM_snoc]
  have HL : Hid (∀ k, (afterM kn (cs.take k)).1 < 1048576 ∧ (afterM kn (cs.take k)).2 < 1048576) := fun k => afterM_lt (m := 20) fun l hl => hp l (List.mem_of_mem_take hl)
  have HE : Hid (afterM kn (cs.take cs.length) = afterM kn cs) := by rw [List.take_length]; rfl
  clear hb hp
  generalize hN : cs.length = m at *
  have HN := Lib.hid hN; clear hN
  have HB0 : Hid (∀ o1 o2 W, Below w.heap.size ((w.alloc o1).alloc o2) W → Below w.heap.size w W) := fun o1 o2 W h => (((Below.refl _ w).alloc (Nat.le_refl _) _).alloc (by simp) _).trans (h.mono (by omega))
  have HC0 : Hid (AftC ((w.alloc (.cells #[.int .i64 0, .int .i64 0] 110)).alloc (.cells #[.int .i64 0, .int .i64 0] 110)) w.heap.size 0 0) := by
    have hA : Below (w.alloc (.cells #[.int .i64 0, .int .i64 0] 110)).heap.size (w.alloc (.cells #[.int .i64 0, .int .i64 0] 110)) ((w.alloc (.cells #[.int .i64 0, .int .i64 0] 110)).alloc (.cells #[.int .i64 0, .int .i64 0] 110)) := (Below.refl _ _).alloc (Nat.le_refl _) _
    have h1 := cells2 w _ _ _ _ hA
    have h2 := cells2 (w.alloc (.cells #[.int .i64 0, .int .i64 0] 110)) _ _ _ _ (Below.refl ((w.alloc (.cells #[.int .i64 0, .int .i64 0] 110)).alloc (.cells #[.int .i64 0, .int .i64 0] 110)).heap.size _)
    rw [show (w.alloc (.cells #[.int .i64 0, .int .i64 0] 110)).heap.size = w.heap.size + 1 by simp] at h2
    obtain ⟨_, f1⟩ := bcell hA
    exact ⟨h2.1, h2.2, h1.1, h1.2, fun j => (f1 _ j (by simp)).trans (World.frozen?_alloc_at _ _ _ _ (by simp)), fun j => World.frozen?_alloc_at _ _ _ _ (by simp)⟩
  have hsz : ((w.alloc (.cells #[.int .i64 0, .int .i64 0] 110)).alloc (.cells #[.int .i64 0, .int .i64 0] 110)).heap.size = w.heap.size + 2 := by simp
  go_enter Tryd.func69, Tryd.ntmps69
  go_wp2_with fail
  have HBA := Lib.hid (fun W h => HB0.out (.cells #[.int .i64 0, .int .i64 0] 110) (.cells #[.int .i64 0, .int .i64 0] 110) W h)
  have HB1 := Lib.hid (HBA.out _ (Below.refl _ _))
  clear HB0
  generalize (w.alloc (.cells #[.int .i64 0, .int .i64 0] 110)).alloc (.cells #[.int .i64 0, .int .i64 0] 110) = w2 at *
  generalize hq : w.heap.size = q at *
  go_loopw [7, 8, 11, 26, 29] (fun _ _ i _ _ wr => ∃ (k P M : Nat), k ≤ m ∧ i = .int .i64 k ∧ Hid (afterM kn (cs.take k) = (P, M)) ∧ AftC wr q P M ∧ Below q w wr ∧ q + 2 ≤ wr.heap.size) (fun _ _ i _ _ _ => m - (intOf i).toNat)
  case atStart => exact ⟨0, 0, 0, Nat.zero_le _, rfl, rfl, HC0.out, HB1.out, by omega⟩
  case round =>
    obtain ⟨k, P, M, hk, rfl, HPM, hAC, hbr, hszr⟩ := hrel
    have HAC := Lib.hid hAC
    obtain ⟨x1, x2, x3, x4, x5, x6⟩ := hAC
    by_cases hlt : k < m
    · obtain ⟨b, off, ha, hb, hc⟩ := HR.out.resolve_left (by omega)
      subst ha
      have g1 := (hbr.cell (p := ⟨b, off + k, none⟩) hb).trans (hc k hlt)
      obtain ⟨q1, q2⟩ := HW.out.get k
      have HPK := HP.out k hlt
      have HTK := Lib.hid (HT.out k hlt)
      have HLK := HL.out k
      rw [HPM.out] at HTK HLK
      obtain ⟨hP, hM⟩ : P < 1048576 ∧ M < 1048576 := HLK
      clear hc
      generalize cs.getD k 0 = l at *
      have HV := Lib.hid (fun W => var_any l W q1 q2)
      have hpl := plc_absI l
      have HBR := Lib.hid hbr
      clear hbr
      have HST : Hid (stepM kn (P, M) l = if plc l ≤ kn then (P, M) else if 0 < l then (P ||| 2 ^ (plc l - kn - 1), M) else (P, M ||| 2 ^ (plc l - kn - 1))) := rfl
      generalize plc l = p at *
      rw [← hpl] at HV
      clear hpl
      by_cases hkn : p ≤ kn
      · have hd1 : decide ((p : Int) - (kn : Int) - 1 < 0) = true := decide_eq_true (by omega)
        have HX : Hid (afterM kn (cs.take (k + 1)) = (P, M)) := by rw [HTK.out, HST.out, if_pos hkn]; rfl
        clear HST HTK
        go_wp2_with (go_at_call 58; refine (HV.out _).mono ?_; rintro e w' ⟨rfl, rfl⟩)
        go_roundw
        case rel => exact ⟨k + 1, P, M, by omega, by go_num, HX.out, HAC.out, HBR.out, hszr⟩
        case measure => simp [intOf]; omega
      · have hd1 : decide ((p : Int) - (kn : Int) - 1 < 0) = false := decide_eq_false (by omega)
        obtain ⟨i, rfl⟩ : ∃ i, p = kn + 1 + i := ⟨p - kn - 1, by omega⟩
        have hi : i ≤ 19 := by omega
        have hpi : ((kn + 1 + i : Nat) : Int) - (kn : Int) - 1 = (i : Int) := by omega
        rw [hpi] at hd1
        have HSH := shl_one i (by omega)
        by_cases hl0 : 0 < l
        · have hd2 : decide (0 < l) = true := decide_eq_true hl0
          have HX : Hid (afterM kn (cs.take (k + 1)) = (P ||| 2 ^ i, M)) := by rw [HTK.out, HST.out, if_neg hkn, if_pos hl0, show kn + 1 + i - kn - 1 = i by omega]; rfl
          clear HST HTK
          go_wp2_with (go_at_call 58; refine (HV.out _).mono ?_; rintro e w' ⟨rfl, rfl⟩)
          go_region
          all_goals go_wp2_with fail
          all_goals
            have hval : bits .or .i64 (P : Int) (wrap64 (2 ^ (kn + 1 + i - kn - 1))) = ((P ||| 2 ^ i : Nat) : Int) := by
              rw [show kn + 1 + i - kn - 1 = i by omega]
              have h1 : wrap64 (2 ^ i) = ((2 ^ i : Nat) : Int) := by have := HSH; rw [Int.one_mul] at this; rw [IntKind.wrap_i64] at this; unfold wrap64; exact this
              rw [h1, bits_or_i64 _ _ (by omega) (Nat.lt_of_lt_of_le (pow_lt20 i hi) (by decide))]
            refine ⟨⟨k + 1, P ||| 2 ^ i, M, by omega, by go_num, HX.out, ?_, ?_, ?_⟩, by simp [intOf]; omega⟩
            · rw [hval]; first | exact HAC.out.setP _ | exact (HAC.out.setP _)
            · first | exact (HBR.out.setCell (by show q ≤ q + 1; omega) _).drew | exact (HBR.out.setCell (by show q ≤ q + 1; omega) _)
            · simp [World.setCell, World.drew]; omega
        · have hd2 : decide (0 < l) = false := decide_eq_false hl0
          have HX : Hid (afterM kn (cs.take (k + 1)) = (P, M ||| 2 ^ i)) := by rw [HTK.out, HST.out, if_neg hkn, if_neg hl0, show kn + 1 + i - kn - 1 = i by omega]; rfl
          clear HST HTK
          go_wp2_with (go_at_call 58; refine (HV.out _).mono ?_; rintro e w' ⟨rfl, rfl⟩)
          go_region
          all_goals go_wp2_with fail
          all_goals
            have hval : bits .or .i64 (M : Int) (wrap64 (2 ^ (kn + 1 + i - kn - 1))) = ((M ||| 2 ^ i : Nat) : Int) := by
              rw [show kn + 1 + i - kn - 1 = i by omega]
              have h1 : wrap64 (2 ^ i) = ((2 ^ i : Nat) : Int) := by have := HSH; rw [Int.one_mul] at this; rw [IntKind.wrap_i64] at this; unfold wrap64; exact this
              rw [h1, bits_or_i64 _ _ (by omega) (Nat.lt_of_lt_of_le (pow_lt20 i hi) (by decide))]
            refine ⟨⟨k + 1, P, M ||| 2 ^ i, by omega, by go_num, HX.out, ?_, ?_, ?_⟩, by simp [intOf]; omega⟩
            · rw [hval]; first | exact HAC.out.setM _ | exact (HAC.out.setM _)
            · first | exact (HBR.out.setCell (by show q ≤ q + 1; omega) _).drew | exact (HBR.out.setCell (by show q ≤ q + 1; omega) _)
            · simp [World.setCell, World.drew]; omega
    · have hkm : k = m := by omega
      subst hkm
      have HX : Hid (afterM kn cs = (P, M)) := HE.out.symm.trans HPM.out
      have x50 := x5 0
      have x51 := x5 1
      clear HPM HP HT HL
      have HBR := Lib.hid hbr
      go_wp2_with fail
      have c0 := World.cell?_setCell_same wr ⟨q, 0, none⟩ (.int .i64 (P : Int)) x3
      have c1 := World.cell?_setCell_same (wr.setCell ⟨q, 0, none⟩ (.int .i64 (P : Int))) ⟨q, 1, none⟩ (.int .i64 (M : Int)) ((World.cell?_setCell_other _ _ _ _ (fun e => by injection e with e1 e2; omega)).trans x4)
      have c2 : ((wr.setCell ⟨q, 0, none⟩ (.int .i64 (P : Int))).setCell ⟨q, 1, none⟩ (.int .i64 (M : Int))).cell? ⟨q, 0, none⟩ = some (.int .i64 (P : Int)) := (World.cell?_setCell_other _ _ _ _ (fun e => by injection e with e1 e2; omega)).trans c0
      refine bodyPost_ret (v := .agg #[.int .i64 (P : Int), .int .i64 (M : Int)]) (by simp [results, Tryd.results69, go_sem, c1, c2]) rfl ⟨by rw [HX.out], ?_⟩
      rw [hq]
      exact (HBR.out.setCell (Nat.le_refl _) _).setCell (Nat.le_refl _) _
end Go.Proofs.YtjpchjbpolcndaaDoor

namespace Go.Proofs.YtjpchjbpolcndaaDoor
open Go.RowKit

abbrev Mk := Nat × Nat
/-- Masks lie in the block b from off on, and may be written. -/
def MCel (w : World) (b off : Nat) (cur : List Mk) : Prop := ∀ j, j < cur.length → w.cell? ⟨b, off + j * 2, none⟩ = some (.int .i64 ((cur.getD j (0, 0)).1 : Int)) ∧ w.cell? ⟨b, off + j * 2 + 1, none⟩ = some (.int .i64 ((cur.getD j (0, 0)).2 : Int)) ∧ w.frozen? ⟨b, off + j * 2, none⟩ = false ∧ w.frozen? ⟨b, off + j * 2 + 1, none⟩ = false
theorem MCel.keep {w w' : World} {b off : Nat} {cur : List Mk} (h : MCel w b off cur) (hlt : b < w.heap.size) (hb : Below w.heap.size w w') : MCel w' b off cur := fun j hj => by
  obtain ⟨h1, h2, h3, h4⟩ := h j hj
  exact ⟨(hb.cell (p := ⟨b, off + j * 2, none⟩) hlt).trans h1, (hb.cell (p := ⟨b, off + j * 2 + 1, none⟩) hlt).trans h2, (hb.frozen (p := ⟨b, off + j * 2, none⟩) hlt).trans h3, (hb.frozen (p := ⟨b, off + j * 2 + 1, none⟩) hlt).trans h4⟩
theorem getD_setM (V : List Mk) (m : Nat) (x : Mk) (i : Nat) : (V.set m x).getD i (0, 0) = if m = i ∧ i < V.length then x else V.getD i (0, 0) := by
  simp only [List.getD, List.getElem?_set]
  by_cases h1 : m = i
  · subst h1
    by_cases h2 : m < V.length
    · simp [h2]
    · simp [h2]
  · simp [h1]
theorem MCel.set {w : World} {b off : Nat} {cur : List Mk} (h : MCel w b off cur) (k : Nat) (P M : Nat) : MCel ((w.setCell ⟨b, off + k * 2, none⟩ (.int .i64 (P : Int))).setCell ⟨b, off + k * 2 + 1, none⟩ (.int .i64 (M : Int))) b off (cur.set k (P, M)) := fun j hj => by
  have hj' : j < cur.length := by simpa using hj
  obtain ⟨h1, h2, h3, h4⟩ := h j hj'
  have o : ∀ (W : World) (j j' : Nat) (v : Value), j ≠ j' → (W.setCell ⟨b, j, none⟩ v).cell? ⟨b, j', none⟩ = W.cell? ⟨b, j', none⟩ := fun W j j' v h => World.cell?_setCell_other _ _ _ _ (fun e => by injection e with e1 e2; omega)
  rw [getD_setM]
  refine ⟨?_, ?_, ?_, ?_⟩
  · by_cases e : k = j
    · subst e
      rw [if_pos ⟨rfl, hj'⟩, o _ _ _ _ (by omega)]
      exact World.cell?_setCell_same _ _ _ h1
    · rw [if_neg (fun hh => e hh.1), o _ _ _ _ (by omega), o _ _ _ _ (by omega)]
      exact h1
  · by_cases e : k = j
    · subst e
      rw [if_pos ⟨rfl, hj'⟩]
      exact World.cell?_setCell_same _ _ _ ((o _ _ _ _ (by omega)).trans h2)
    · rw [if_neg (fun hh => e hh.1), o _ _ _ _ (by omega), o _ _ _ _ (by omega)]
      exact h2
  · rw [World.frozen?_setCell, World.frozen?_setCell]; exact h3
  · rw [World.frozen?_setCell, World.frozen?_setCell]; exact h4
theorem MCel.row {w : World} {b off : Nat} {cur : List Mk} (h : MCel w b off cur) (hb : b < w.heap.size) (c : Nat) (h1 : cur.length ≤ c) (h2 : c ≤ maxLen) : RowM w (.slice (some ⟨b, off, none⟩) cur.length c) cur :=
  ⟨_, _, rfl, h1, h2, .inr ⟨b, off, rfl, hb, fun j hj => ⟨(h j hj).1, (h j hj).2.1⟩⟩⟩

/-- What holds in the second loop: kk masks kept of the first m. -/
structure CpI (D cur : List Mk) (kk m : Nat) : Prop where
  len : cur.length = D.length
  lt : kk < m
  le : m ≤ D.length
  high : ∀ j, m ≤ j + 1 → cur.getD j (0, 0) = D.getD j (0, 0)
  mem : ∀ x, x ∈ cur.take kk ↔ x ∈ D.take m
theorem take_memM (D : List Mk) (m : Nat) (h : m < D.length) (x : Mk) : x ∈ D.take (m + 1) ↔ x ∈ D.take m ∨ x = D.getD m (0, 0) := by
  rw [List.take_succ_eq_append_getElem h, List.mem_append, List.mem_singleton]
  simp [List.getD, h]
theorem getD_takeM (D : List Mk) (i m : Nat) (h : i < m) (hm : m ≤ D.length) : D.getD i (0, 0) ∈ D.take m := by
  have hi : i < (D.take m).length := by rw [List.length_take]; omega
  have : D.getD i (0, 0) = (D.take m)[i] := by simp [List.getD, show i < D.length by omega]
  rw [this]
  exact List.getElem_mem hi
theorem CpI.start {D : List Mk} {k : Nat} (h1 : 1 ≤ k) (h2 : k < D.length) (h : D.getD k (0, 0) = D.getD (k - 1) (0, 0)) : CpI D D k (k + 1) where
  len := rfl
  lt := by omega
  le := by omega
  high := fun _ _ => rfl
  mem := fun x => by
    rw [take_memM D k h2, h]
    exact ⟨.inl, fun a => a.elim id fun e => by rw [e]; exact getD_takeM D (k - 1) k (by omega) (by omega)⟩
theorem CpI.skip {D cur : List Mk} {kk m : Nat} (h : CpI D cur kk m) (h1 : 1 ≤ m) (h2 : m < D.length) (e : D.getD m (0, 0) = D.getD (m - 1) (0, 0)) : CpI D cur kk (m + 1) where
  len := h.len
  lt := by have := h.lt; omega
  le := by omega
  high := fun j hj => h.high j (by omega)
  mem := fun x => by
    rw [take_memM D m h2, e, h.mem]
    exact ⟨.inl, fun a => a.elim id fun e => by rw [e]; exact getD_takeM D (m - 1) m (by omega) (by omega)⟩
theorem CpI.put {D cur : List Mk} {kk m : Nat} (h : CpI D cur kk m) (h2 : m < D.length) : CpI D (cur.set kk (D.getD m (0, 0))) (kk + 1) (m + 1) where
  len := by rw [List.length_set]; exact h.len
  lt := by have := h.lt; omega
  le := by omega
  high := fun j hj => by
    have := h.lt
    rw [getD_setM, if_neg (fun hh => by omega)]
    exact h.high j (by omega)
  mem := fun x => by
    have hlt := h.lt
    have hlen := h.len
    rw [take_memM D m h2, ← h.mem, take_memM _ kk (by rw [List.length_set]; omega), getD_setM, if_pos ⟨rfl, by omega⟩, List.take_set_of_le (Nat.le_refl kk)]
theorem below_setCells {B : Nat} {w : World} (b : Nat) (hb : B ≤ b) : ∀ (vs : List Value) (o : Nat) (w' : World), Below B w w' → Below B w (w'.setCells b o vs)
  | [], _, _, h => h
  | v :: r, o, _, h => below_setCells b hb r (o + 1) _ (h.setCell hb v)
theorem run_clear_two {P : Program} (w : World) (t e ty : TypeId) (z : Value) (ht : P.underlying t = some (.slice e)) (hv : ∀ w, (zeroValue e).run P w = .ok z w) (hz : z.cells = #[.int .i64 0, .int .i64 0]) (b o n c : Nat) (hn : 0 < n)
    (hc : ∀ j, j < n * 2 → (w.cell? ⟨b, o + j, none⟩).isSome = true) (hf : ∀ j, j < n * 2 → w.frozen? ⟨b, o + j, none⟩ = false) :
    (Builtin.clear_ #[t] ty #[.slice (some ⟨b, o, none⟩) n c]).run P w = .ok (.tuple #[]) (w.setCells b o (List.replicate (n * 2) (.int .i64 0))) := by
  have hzc : (Builtin.zeroCells z.cells n).toList = List.replicate (n * 2) (.int .i64 0) := by
    rw [hz]
    simp [Builtin.zeroCells]
    apply List.ext_getElem
    · simp
    · intro i h1 h2
      rcases Nat.mod_two_eq_zero_or_one i with e | e <;> simp [e]
  have hst := run_storeCells_cells (P := P) b o (List.replicate (n * 2) (.int .i64 0)) 0 w (by simpa using hc) (by simpa using hf) (by intro v hv'; rw [List.eq_of_mem_replicate hv']; rfl)
  simp only [Nat.add_zero] at hst
  obtain ⟨m, rfl⟩ : ∃ m, n = m + 1 := ⟨n - 1, by omega⟩
  simp [Builtin.clear_, run_underlying ht, hv, hzc, hst]
end Go.Proofs.YtjpchjbpolcndaaDoor

namespace Go.Proofs.YtjpchjbpolcndaaDoor
open Go.RowKit

theorem zeroCl : ∀ w : World, (zeroValue 110).run Tryd.prog w = .ok (.agg #[.int .i64 0, .int .i64 0]) w := fun w => by kernel_rfl
def CmpPost (B blk off cap : Nat) (D : List Mk) (w : World) (e : Ending) (w' : World) : Prop :=
  ∃ ds : List Mk, e = .returned (.slice (some ⟨blk, off, none⟩) ds.length cap) ∧ ds.length ≤ D.length ∧ MCel w' blk off ds ∧ (∀ x, x ∈ ds ↔ x ∈ D) ∧ Below B w w'

set_option maxRecDepth 100000 in
set_option maxHeartbeats 4000000 in
theorem compactM_any (B blk off cap : Nat) (D : List Mk) (w : World) (hM : MCel w blk off D) (hB : B ≤ blk) (hn : D.length ≤ 1000000000) (hcap : D.length ≤ cap) :
    Calls Tryd.prog 73 #[.slice (some ⟨blk, off, none⟩) D.length cap] w (CmpPost B blk off cap D w) := by
  by_cases h2 : D.length < 2
  · have HM := Lib.hid hM
    clear hM
    go_enter Tryd.func73, Tryd.ntmps73
    go_wp2_with fail
    go_ret
    exact ⟨D, rfl, Nat.le_refl _, HM.out, fun _ => Iff.rfl, Below.refl _ _⟩
  · have HM := Lib.hid hM
    clear hM
    generalize hN : D.length = n at *
    have HN := Lib.hid hN; clear hN
    go_enter Tryd.func73, Tryd.ntmps73
    go_wp2_with fail
    go_loopw [3] (fun s3 wr => ∃ k : Nat, 1 ≤ k ∧ k ≤ n ∧ s3 = .int .i64 k ∧ MCel wr blk off D ∧ Below B w wr) (fun s3 _ => n - (intOf s3).toNat)
    case atStart => exact ⟨1, Nat.le_refl _, by omega, rfl, HM.out, Below.refl _ _⟩
    case round =>
      obtain ⟨k, hk1, hk, rfl, hmc, hbr⟩ := hrel
      by_cases hlk : k < n
      · obtain ⟨c1, c2, _, _⟩ := hmc k (by rw [HN.out]; exact hlk)
        obtain ⟨c3, c4, _, _⟩ := hmc (k - 1) (by rw [HN.out]; omega)
        have HMC := Lib.hid hmc
        have HBR := Lib.hid hbr
        clear hmc hbr
        have HST : Hid (D.getD k (0, 0) = D.getD (k - 1) (0, 0) → CpI D D k (k + 1)) := fun h => CpI.start hk1 (by rw [HN.out]; exact hlk) h
        generalize D.getD k (0, 0) = x at *
        generalize D.getD (k - 1) (0, 0) = y at *
        obtain ⟨P, M⟩ := x
        obtain ⟨P', M'⟩ := y
        simp only at c1 c2 c3 c4
        obtain ⟨i, rfl⟩ : ∃ i, k = i + 1 := ⟨k - 1, by omega⟩
        simp only [Nat.add_sub_cancel] at c3 c4
        by_cases hdup : P = P' ∧ M = M'
        · obtain ⟨rfl, rfl⟩ := hdup
          have HS := Lib.hid (HST.out rfl)
          clear HST
          go_wp2_with fail
          go_region
          go_wp2_with fail
          clear c1 c2 c3 c4
          go_loopw [3, 5] (fun s3 s5 wr2 => ∃ (kk t : Nat) (cur : List Mk), s3 = .int .i64 kk ∧ s5 = .int .i64 ((t : Int) + 1) ∧ i + 1 + (t + 1) ≤ n ∧ MCel wr2 blk off cur ∧ Below B w wr2 ∧ Hid (CpI D cur kk (i + 1 + (t + 1)))) (fun _ s5 _ => n - (intOf s5).toNat)
          case atStart => exact ⟨i + 1, 0, D, by go_num, rfl, by omega, HMC.out, HBR.out.drew, HS.out⟩
          case round =>
            obtain ⟨kk, t, cur, rfl, rfl, hle, hmc2, hbr2, HI⟩ := hrel
            have hkl := HI.out.lt
            have hlen := HI.out.len
            rw [HN.out] at hlen
            by_cases hl2 : i + 1 + (t + 1) < n
            · obtain ⟨m1, m2, _, _⟩ := hmc2 (i + 1 + (t + 1)) (by omega)
              obtain ⟨p1, p2, _, _⟩ := hmc2 (i + 1 + t) (by omega)
              obtain ⟨k1, k2, k3, k4⟩ := hmc2 kk (by omega)
              rw [HI.out.high (i + 1 + (t + 1)) (by omega), show off + (i + 1 + (t + 1)) * 2 = off + (i + 1) * 2 + (t + 1) * 2 by omega] at m1 m2
              rw [HI.out.high (i + 1 + t) (by omega), show off + (i + 1 + t) * 2 = off + (i + 1) * 2 + t * 2 by omega] at p1 p2
              have HMC2 := Lib.hid hmc2
              have HBR2 := Lib.hid hbr2
              clear hmc2 hbr2
              have HSK : Hid (D.getD (i + 1 + (t + 1)) (0, 0) = D.getD (i + 1 + t) (0, 0) → CpI D cur kk (i + 1 + (t + 1 + 1))) := fun h => HI.out.skip (by omega) (by rw [HN.out]; exact hl2) (by rw [h]; rfl)
              have HPT : Hid (CpI D (cur.set kk (D.getD (i + 1 + (t + 1)) (0, 0))) (kk + 1) (i + 1 + (t + 1 + 1))) := HI.out.put (by rw [HN.out]; exact hl2)
              generalize D.getD (i + 1 + (t + 1)) (0, 0) = x at *
              generalize D.getD (i + 1 + t) (0, 0) = y at *
              generalize cur.getD kk (0, 0) = z at *
              obtain ⟨P2, M2⟩ := x
              obtain ⟨P3, M3⟩ := y
              obtain ⟨P4, M4⟩ := z
              simp only at m1 m2 p1 p2 k1 k2
              by_cases hdup2 : P2 = P3 ∧ M2 = M3
              · obtain ⟨rfl, rfl⟩ := hdup2
                have HS2 := Lib.hid (HSK.out rfl)
                clear HSK HPT
                go_wp2_with fail
                go_region
                go_wp2_with fail
                go_roundw
                case rel => exact ⟨kk, t + 1, cur, rfl, by go_num, by omega, HMC2.out, HBR2.out.drew, HS2.out⟩
                case measure => simp [intOf]; omega
              · clear HSK
                have HMS := Lib.hid (fun W (h : MCel W blk off cur) => h.set kk P2 M2)
                by_cases hP : P2 = P3
                · subst hP
                  have hb1 : ((M2 : Int) == (M3 : Int)) = false := beq_eq_false_iff_ne.2 (fun e => hdup2 ⟨rfl, by omega⟩)
                  clear hdup2
                  go_wp2_with fail
                  go_region
                  go_wp2_with fail
                  go_roundw
                  case rel => exact ⟨kk + 1, t + 1, _, by go_num, by go_num, by omega, HMS.out _ HMC2.out, (HBR2.out.drew.setCell hB _).setCell hB _, HPT.out⟩
                  case measure => simp [intOf]; omega
                · have hb1 : ((P2 : Int) == (P3 : Int)) = false := beq_eq_false_iff_ne.2 (fun e => hP (by omega))
                  clear hdup2 hP
                  go_wp2_with fail
                  go_region
                  go_wp2_with fail
                  go_roundw
                  case rel => exact ⟨kk + 1, t + 1, _, by go_num, by go_num, by omega, HMS.out _ HMC2.out, (HBR2.out.drew.setCell hB _).setCell hB _, HPT.out⟩
                  case measure => simp [intOf]; omega
            · have hend : i + 1 + (t + 1) = n := by omega
              have HE : Hid (MCel (wr.setCells blk (off + kk * 2) (List.replicate ((n - kk) * 2) (.int .i64 0))) blk off (cur.take kk)) := fun j hj => by
                have hj' : j < kk := by rw [List.length_take] at hj; omega
                obtain ⟨e1, e2, e3, e4⟩ := hmc2 j (by omega)
                have hg : (cur.take kk).getD j (0, 0) = cur.getD j (0, 0) := by simp [List.getD, hj', show j < cur.length by omega]
                rw [hg]
                refine ⟨(World.cell?_setCells_out blk _ (off + kk * 2) _ ⟨blk, off + j * 2, none⟩ (fun _ _ => .inl (by show off + j * 2 < off + kk * 2; omega))).trans e1, (World.cell?_setCells_out blk _ (off + kk * 2) _ ⟨blk, off + j * 2 + 1, none⟩ (fun _ _ => .inl (by show off + j * 2 + 1 < off + kk * 2; omega))).trans e2, ?_, ?_⟩
                · rw [World.frozen?_setCells]; exact e3
                · rw [World.frozen?_setCells]; exact e4
              have HB2 := Lib.hid (below_setCells blk hB (List.replicate ((n - kk) * 2) (.int .i64 0)) (off + kk * 2) wr hbr2)
              have HM2 : Hid (∀ x, x ∈ cur.take kk ↔ x ∈ D) := fun x => by
                have := HI.out.mem x
                rw [hend, ← HN.out, List.take_length] at this
                exact this
              have HL2 : Hid ((cur.take kk).length = kk) := by show _ = _; rw [List.length_take]; omega
              have hcell : ∀ j, j < (n - kk) * 2 → (wr.cell? ⟨blk, off + kk * 2 + j, none⟩).isSome = true ∧ wr.frozen? ⟨blk, off + kk * 2 + j, none⟩ = false := fun j hj => by
                obtain ⟨e1, e2, e3, e4⟩ := hmc2 (kk + j / 2) (by omega)
                rcases Nat.mod_two_eq_zero_or_one j with e | e
                · rw [show off + kk * 2 + j = off + (kk + j / 2) * 2 by omega, e1]
                  exact ⟨rfl, e3⟩
                · rw [show off + kk * 2 + j = off + (kk + j / 2) * 2 + 1 by omega, e2]
                  exact ⟨rfl, e4⟩
              have hcl : ∀ ty, (Builtin.clear_ #[81] ty #[.slice (some ⟨blk, off + kk * 2, none⟩) (n - kk) (cap - kk)]).run Tryd.prog wr = .ok (.tuple #[]) (wr.setCells blk (off + kk * 2) (List.replicate ((n - kk) * 2) (.int .i64 0))) := fun ty =>
                run_clear_two wr _ _ ty _ Tryd.underlying81 zeroCl rfl blk (off + kk * 2) _ _ (by omega) (fun j hj => (hcell j hj).1) (fun j hj => (hcell j hj).2)
              clear hcell hmc2 hbr2
              go_wp2_with fail
              go_ret
              exact ⟨cur.take kk, by rw [HL2.out]; rfl, by rw [HL2.out, HN.out]; omega, HE.out, HM2.out, HB2.out⟩
        · by_cases hP : P = P'
          · subst hP
            have hb1 : ((M : Int) == (M' : Int)) = false := beq_eq_false_iff_ne.2 (fun e => hdup ⟨rfl, by omega⟩)
            clear hdup HST
            go_wp2_with fail
            go_region
            go_wp2_with fail
            go_roundw
            case rel => exact ⟨i + 1 + 1, by omega, by omega, by go_num, HMC.out, HBR.out.drew⟩
            case measure => simp [intOf]; omega
          · have hb1 : ((P : Int) == (P' : Int)) = false := beq_eq_false_iff_ne.2 (fun e => hP (by omega))
            clear hdup hP HST
            go_wp2_with fail
            go_region
            go_wp2_with fail
            go_roundw
            case rel => exact ⟨i + 1 + 1, by omega, by omega, by go_num, HMC.out, HBR.out.drew⟩
            case measure => simp [intOf]; omega
      · have hkn : k = n := by omega
        subst hkn
        have HMC := Lib.hid hmc
        have HBR := Lib.hid hbr
        clear hmc hbr
        go_wp2_with fail
        go_ret
        exact ⟨D, by rw [HN.out]; rfl, Nat.le_refl _, HMC.out, fun _ => Iff.rfl, HBR.out⟩
end Go.Proofs.YtjpchjbpolcndaaDoor
