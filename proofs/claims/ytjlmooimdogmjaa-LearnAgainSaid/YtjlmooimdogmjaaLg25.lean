/- The contract of prop's New. Conditions: 64-bit ints. · Plain functions for lits.Norm: the order of its literals, the list that it answers, whether it says something. Holds for all lists of ints; no conditions. -/
import Derived.Test.YtjlmooimdogmjaaLg24
import Derived.Test.YtjlmooimdogmjaaLg00
import Derived.Shelf.SlSortCmp.NoneTotal
import Derived.Lib.OwnBridge
set_option linter.unusedVariables false
set_option linter.unusedSimpArgs false
namespace Go.Proofs.Ytjlmooimdogmjaa
open Go.RowKit

/-- Nothing is known, and there is no clause. -/
def mc0 : Mc := ⟨0, [0], [], 0, [], 0, fun _ => false, fun _ => none, fun _ => 0, fun _ => none, fun _ => [], fun _ => [], []⟩
theorem mc0_I : McI mc0 where
  w := ⟨by decide, rfl, by have := vals_zero (N := 0) (by omega); exact this, fun l => by rw [show mc0.vs = List.replicate (0 + 1) 0 from rfl, valL_zeros]; exact ⟨nofun, nofun⟩, .nil, Nat.le_refl _, .nil, nofun, fun i hi => absurd hi (Nat.not_lt_zero _), fun _ => rfl, nofun, fun _ _ => rfl, nofun, fun i hi => absurd hi (Nat.not_lt_zero _)⟩
  l := ⟨.nil, nofun, fun _ => .nil, nofun, fun _ => .nil, nofun, nofun⟩
  s := fun i _ c hc => by cases hc
  r := nofun

theorem alloc_sz (w : World) (o : Obj) : (w.alloc o).heap.size = w.heap.size + 1 := Array.size_push _
def zv5 : Obj := .cells #[.int .i64 0, .pointer none, .slice none 0 0, .slice none 0 0, .slice none 0 0] 71
/-- What New has made so far, in any order. -/
structure Acc (w W : World) (a : Option (Nat × Nat)) (v m : Option Nat) : Prop where
  b : Below w.heap.size w W
  v' : ∀ q, v = some q → w.heap.size ≤ q ∧ q < W.heap.size ∧ W.heap[q]? = some zv5
  m' : ∀ q, m = some q → w.heap.size ≤ q ∧ q < W.heap.size ∧ W.heap[q]? = some (.map #[] 0)
  a' : ∀ x y, a = some (x, y) → w.heap.size ≤ x ∧ w.heap.size ≤ y ∧ Asg W 0 (.pointer (some ⟨x, 0, none⟩)) x y [0]
  d1 : ∀ q r, v = some q → m = some r → q ≠ r
  d2 : ∀ x y q, a = some (x, y) → v = some q → x ≠ q ∧ y ≠ q
  d3 : ∀ x y q, a = some (x, y) → m = some q → x ≠ q ∧ y ≠ q
section
variable {w W W' : World} {a : Option (Nat × Nat)} {v m : Option Nat}
theorem Acc.start (w : World) : Acc w w.drew none none none := ⟨(Below.refl _ _).drew, nofun, nofun, nofun, nofun, nofun, nofun⟩
theorem Acc.below (h : Acc w W a v m) (hb : Below W.heap.size W W') : Acc w W' a v m where
  b := h.b.trans (hb.mono h.b.size)
  v' := fun q e => by obtain ⟨h1, h2, h3⟩ := h.v' q e; exact ⟨h1, Nat.lt_of_lt_of_le h2 hb.size, (hb.block q h2).trans h3⟩
  m' := fun q e => by obtain ⟨h1, h2, h3⟩ := h.m' q e; exact ⟨h1, Nat.lt_of_lt_of_le h2 hb.size, (hb.block q h2).trans h3⟩
  a' := fun x y e => by obtain ⟨h1, h2, h3⟩ := h.a' x y e; exact ⟨h1, h2, h3.keepB hb.size (hb.block x h3.sp) (hb.block y h3.sq)⟩
  d1 := h.d1
  d2 := h.d2
  d3 := h.d3
theorem Acc.stV (h : Acc w W a none m) : Acc w (W.alloc zv5) a (some W.heap.size) m := by
  have k := h.below (W' := W.alloc zv5) ((Below.refl _ _).alloc (Nat.le_refl _) _)
  refine ⟨k.b, fun q e => ?_, k.m', k.a', fun q r e1 e2 => ?_, fun x y q e1 e2 => ?_, k.d3⟩
  · injection e with e
    subst e
    exact ⟨h.b.size, by show _ < (W.heap.push _).size; rw [Array.size_push]; omega, heap_alloc_new W _⟩
  · injection e1 with e1
    have := (h.m' r e2).2.1
    omega
  · injection e2 with e2
    have := (h.a' x y e1).2.2
    have h1 := this.sp
    have h2 := this.sq
    omega
theorem Acc.stM (h : Acc w W a v none) : Acc w (W.alloc (.map #[] 0)) a v (some W.heap.size) := by
  have k := h.below (W' := W.alloc (.map #[] 0)) ((Below.refl _ _).alloc (Nat.le_refl _) _)
  refine ⟨k.b, k.v', fun q e => ?_, k.a', fun q r e1 e2 => ?_, k.d2, fun x y q e1 e2 => ?_⟩
  · injection e with e
    subst e
    exact ⟨h.b.size, by show _ < (W.heap.push _).size; rw [Array.size_push]; omega, heap_alloc_new W _⟩
  · injection e2 with e2
    have := (h.v' q e1).2.1
    omega
  · injection e2 with e2
    have := (h.a' x y e1).2.2
    have h1 := this.sp
    have h2 := this.sq
    omega
theorem Acc.stA (h : Acc w W none v m) {x y : Nat} (ha : Asg W' W.heap.size (.pointer (some ⟨x, 0, none⟩)) x y (newV 0)) (hb : Below W.heap.size W W') : Acc w W' (some (x, y)) v m := by
  have k := h.below hb
  have hx := ha.bp
  have hy := ha.bq
  rw [newV_of (m := 1) (by decide)] at ha
  refine ⟨k.b, k.v', k.m', fun x' y' e => ?_, k.d1, fun x' y' q e1 e2 => ?_, fun x' y' q e1 e2 => ?_⟩
  · injection e with e
    injection e with e1 e2
    subst e1; subst e2
    exact ⟨Nat.le_trans h.b.size hx, Nat.le_trans h.b.size hy, ha.base (Nat.zero_le _)⟩
  · injection e1 with e1
    injection e1 with e1 e3
    have := (h.v' q e2).2.1
    omega
  · injection e1 with e1
    injection e1 with e1 e3
    have := (h.m' q e2).2.1
    omega
def rho0 (p x y q r : Nat) : Nat → Option Rl := fun b => if b = p then some .p else if b = x ∨ b = y then some .a else if b = q then some .v else if b = r then some .mp else none
/-- The prop that New makes. -/
def lay0 (p x y q r : Nat) : Lay := ⟨p, x, y, q, 1, r, nilS, nilS, nilS, fun _ => nilS, fun _ => nilS, fun _ => 0, fun _ => nilS⟩
theorem rol_nil {ρ : Nat → Option Rl} (r : Rl) (e : TypeId) : RolA ρ W r e nilS [] := ⟨World.ownsRow_nil _ _ _ _, nofun⟩
theorem Acc.ma {x y q r : Nat} (h : Acc w W (some (x, y)) (some q) (some r)) :
    ∃ ρ, MA (W.alloc (.cells #[.pointer (some ⟨x, 0, none⟩), .slice (some ⟨q, 0, none⟩) 1 1, nilS, .int .i64 0, nilS, .map (some r), .int .i64 0, nilS] 67)) ρ (lay0 W.heap.size x y q r) mc0 ∧ (∀ b k, ρ b = some k → w.heap.size ≤ b) := by
  obtain ⟨P, hP⟩ : ∃ P : Obj, P = .cells #[.pointer (some ⟨x, 0, none⟩), .slice (some ⟨q, 0, none⟩) 1 1, nilS, .int .i64 0, nilS, .map (some r), .int .i64 0, nilS] 67 := ⟨_, rfl⟩
  rw [← hP]
  have k := h.below (W' := W.alloc P) ((Below.refl _ _).alloc (Nat.le_refl _) _)
  have hp : (W.alloc P).heap[W.heap.size]? = some P := heap_alloc_new W _
  obtain ⟨v1, v2, v3⟩ := h.v' q rfl
  obtain ⟨m1, m2, m3⟩ := h.m' r rfl
  obtain ⟨a1, a2, a3⟩ := h.a' x y rfl
  have v4 := (k.v' q rfl).2.2
  have m4 := (k.m' r rfl).2.2
  have a4 := (k.a' x y rfl).2.2
  have d1 := h.d1 q r rfl rfl
  have d2 := h.d2 x y q rfl rfl
  have d3 := h.d3 x y r rfl rfl
  have hx := a3.sp
  have hy := a3.sq
  have hs := h.b.size
  have hsz : (W.alloc P).heap.size = W.heap.size + 1 := Array.size_push _
  refine ⟨rho0 W.heap.size x y q r, ⟨fun b k hb => ?_, fun v _ => ⟨rfl, rfl, rfl, rfl, rfl⟩, fun k => ?_⟩, fun b k hb => ?_⟩
  · rw [hsz]
    unfold rho0 at hb
    split at hb
    · omega
    · split at hb
      · rename_i e; rcases e with rfl | rfl <;> omega
      · split at hb
        · omega
        · split at hb
          · omega
          · cases hb
  · cases k with
    | p =>
      refine ⟨if_pos rfl, ?_⟩
      subst hP
      exact ⟨(cell_of_row _ _ 0 _ _ _ hp).trans rfl, (cell_of_row _ _ 1 _ _ _ hp).trans rfl, (cell_of_row _ _ 2 _ _ _ hp).trans rfl, (cell_of_row _ _ 3 _ _ _ hp).trans rfl, (cell_of_row _ _ 4 _ _ _ hp).trans rfl, (cell_of_row _ _ 5 _ _ _ hp).trans rfl, (cell_of_row _ _ 6 _ _ _ hp).trans rfl, (cell_of_row _ _ 7 _ _ _ hp).trans rfl, fun i => by
        show World.frozen? _ _ = _
        unfold World.frozen?
        rw [show (lay0 W.heap.size x y q r).p = W.heap.size from rfl, hp]
        simp⟩
    | a =>
      refine ⟨?_, ?_, a4⟩
      · show rho0 W.heap.size x y q r x = _; unfold rho0
        rw [if_neg (by omega), if_pos (.inl rfl)]
      · show rho0 W.heap.size x y q r y = _; unfold rho0
        rw [if_neg (by omega), if_pos (.inr rfl)]
    | v =>
      refine ⟨?_, rfl, .inr ⟨q, 1, _, rfl, Nat.zero_le _, v4, Nat.le_refl _, by decide, rfl, rfl⟩⟩
      show rho0 W.heap.size x y q r q = _; unfold rho0
      rw [if_neg (by omega), if_neg (by omega), if_pos rfl]
    | mp =>
      refine ⟨?_, 0, .map [], ⟨#[], 0, m4, ⟨by simp, ⟨by simp, by simp, by simp⟩, by simp⟩, Nat.le_refl _, rfl⟩, Nat.le_refl _, fun i _ _ => ?_⟩
      · show rho0 W.heap.size x y q r r = _; unfold rho0
        rw [if_neg (by omega), if_neg (by omega), if_neg (by omega), if_pos rfl]
      · show _ = (if 0 ≤ i ∧ false = true then _ else _)
        rw [if_neg (by simp)]
        rfl
    | tr => exact rol_nil _ _
    | st => exact rol_nil _ _
    | td => exact rol_nil _ _
    | w j => exact rol_nil _ _
    | l j => exact rol_nil _ _
    | c i => exact fun c hc => by cases hc
    | d i => exact fun c hc => by cases hc
  · unfold rho0 at hb
    split at hb
    · omega
    · split at hb
      · rename_i e; rcases e with rfl | rfl <;> omega
      · split at hb
        · omega
        · split at hb
          · omega
          · cases hb
end
def NewR (w : World) (k : Int) (e : Ending) (w' : World) : Prop := ∃ ρ L V, e = .returned (ptrP L) ∧ MA w' ρ L { mc0 with n := gN k, vs := V } ∧ McI { mc0 with n := gN k, vs := V } ∧ Below w.heap.size w w' ∧ ∀ b r, ρ b = some r → w.heap.size ≤ b

set_option maxRecDepth 8000 in
set_option maxHeartbeats 16000000 in
theorem mnew_any (w : World) (k : Int) (h1 : -9223372036854775808 ≤ k) (h2 : k ≤ 9223372036854775807) :
    Calls Try.prog 27 #[.int .i64 k] w (NewR w k) := by
  have HNE := Lib.hid (fun (W : World) => new_any 0 W (by omega) (by omega))
  have hmk : ∀ w : World, (Instr.makeSlice 63 (.int .i64 1) (.int .i64 1)).run Try.prog w = .ok (.slice (some ⟨w.heap.size, 0, none⟩) 1 1) (w.alloc (.cells #[.int .i64 0, .pointer none, .slice none 0 0, .slice none 0 0, .slice none 0 0] 71)) := fun _ => by kernel_rfl
  have hmm := @run_makeMap Try.prog
  go_enter Try.func27, Try.ntmps27
  go_upto_region 1 with fail
  go_cut [3] (fun u W => ∃ x y q r W0, Acc w W0 (some (x, y)) (some q) (some r) ∧ W = W0.alloc (.cells #[.pointer (some ⟨x, 0, none⟩), .slice (some ⟨q, 0, none⟩) 1 1, nilS, .int .i64 0, nilS, .map (some r), .int .i64 0, nilS] 67) ∧ u = .pointer (some ⟨W0.heap.size, 0, none⟩))
  case first =>
    go_region_with ((refine (HNE.out _).mono ?_; rintro e w7 ⟨pp, qq, rfl, ha7, hb7⟩; have HA7 := Lib.hid ha7; have HB7 := Lib.hid hb7; clear ha7 hb7))
    all_goals (go_wp2_with fail; go_meet)
    all_goals first
      | exact ⟨_, _, _, _, _, ((Acc.start w).stA HA7.out HB7.out).stV.stM, by first | rfl | (simp only [alloc_sz]; rfl), by first | rfl | (simp only [alloc_sz]; rfl) | simp only [alloc_sz]⟩
      | exact ⟨_, _, _, _, _, ((Acc.start w).stA HA7.out HB7.out).stM.stV, by first | rfl | (simp only [alloc_sz]; rfl), by first | rfl | (simp only [alloc_sz]; rfl) | simp only [alloc_sz]⟩
      | exact ⟨_, _, _, _, _, ((Acc.start w).stV.stA HA7.out HB7.out).stM, by first | rfl | (simp only [alloc_sz]; rfl), by first | rfl | (simp only [alloc_sz]; rfl) | simp only [alloc_sz]⟩
      | exact ⟨_, _, _, _, _, (Acc.start w).stV.stM.stA HA7.out HB7.out, by first | rfl | (simp only [alloc_sz]; rfl), by first | rfl | (simp only [alloc_sz]; rfl) | simp only [alloc_sz]⟩
      | exact ⟨_, _, _, _, _, ((Acc.start w).stM.stA HA7.out HB7.out).stV, by first | rfl | (simp only [alloc_sz]; rfl), by first | rfl | (simp only [alloc_sz]; rfl) | simp only [alloc_sz]⟩
      | exact ⟨_, _, _, _, _, (Acc.start w).stM.stV.stA HA7.out HB7.out, by first | rfl | (simp only [alloc_sz]; rfl), by first | rfl | (simp only [alloc_sz]; rfl) | simp only [alloc_sz]⟩
  case rest =>
    obtain ⟨x, y, q, r, W0, hA, rfl, rfl⟩ := hcut
    obtain ⟨ρ0, hM, hρ⟩ := hA.ma
    have HG := Lib.hid (mgrow_any hM mc0_I k h1 h2)
    have HA := Lib.hid hA
    have HM := Lib.hid hM
    have HR := Lib.hid hρ
    clear hM hA hρ hmk hmm HNE
    unfold ptrP at HG
    go_wp2_with fail
    refine HG.out.mono ?_
    rintro e w8 ⟨rfl, hG⟩
    have HG8 := Lib.hid hG
    clear hG
    go_wp2_with fail
    go_ret
    obtain ⟨P, hP⟩ : ∃ P : Obj, P = .cells #[.pointer (some ⟨x, 0, none⟩), .slice (some ⟨q, 0, none⟩) 1 1, nilS, .int .i64 0, nilS, .map (some r), .int .i64 0, nilS] 67 := ⟨_, rfl⟩
    have hG := HG8.out
    have hM := HM.out
    rw [← hP] at hG hM
    have hb := HA.out.b.alloc HA.out.b.size P
    rcases hG with ⟨e, rfl⟩ | ⟨hlt, ρ1, L1, V, hC, hL, hM1, hI1⟩
    · have e0 : gN k = 0 := Nat.le_zero.1 e
      exact ⟨ρ0, _, [0], rfl, by rw [e0]; exact hM, by rw [e0]; exact mc0_I, hb, HR.out⟩
    · have hno : ∀ i, i < w.heap.size → ρ0 i = none := fun i hi => by
        cases hq : ρ0 i with
        | none => rfl
        | some r' => have := HR.out i r' hq; omega
      refine ⟨ρ1, L1, V, ?_, hM1, hI1, ⟨hC.os.trans hb.os, hC.tape.trans hb.tape, hC.output.trans hb.output, Nat.le_trans hb.size hC.size, fun i hi => (hC.block i (Nat.lt_of_lt_of_le hi hb.size) (hno i hi)).trans (hb.block i hi)⟩, fun b r' hr => ?_⟩
      · unfold ptrP
        rw [hL]
        rfl
      · rcases Nat.lt_or_ge b w.heap.size with h' | h'
        · rw [hC.old b (Nat.lt_of_lt_of_le h' hb.size) (hno b h')] at hr
          cases hr
        · exact h'

end Go.Proofs.Ytjlmooimdogmjaa

namespace Go.Proofs.Ytjlmooimdogmjaa
open Go.RowKit Go.Sort

/-- A literal without its sign, as 64 bits give it. -/
def vw (x : Int) : Int := if x < 0 then wrap64 (-x) else x
def orI (p q : Int) : Int := if p = 0 then q else p
/-- The comparison that Norm sorts by. -/
def cfO (x y : Int) : Int := orI (Lib.compareInt (vw x) (vw y)) (Lib.compareInt x y)
theorem ltO (x y : Int) : ltOf cfO x y = decide (vw x < vw y ∨ (vw x = vw y ∧ x < y)) := by
  unfold ltOf cfO orI Lib.compareInt
  generalize vw x = a
  generalize vw y = b
  by_cases h1 : a < b
  · simp [h1]
  · by_cases h2 : b < a
    · have : ¬ a = b := by omega
      simp [h1, h2, this]
    · have : a = b := by omega
      subst this
      by_cases h3 : x < y
      · simp [h3]
      · by_cases h4 : y < x <;> simp [h3, h4]
theorem swoO : SWO (ltOf cfO) where
  irrefl x := by rw [ltO]; simp
  trans x y z h1 h2 := by
    rw [ltO] at *
    generalize vw x = a at *
    generalize vw y = b at *
    generalize vw z = c at *
    simp at *; omega
  ntrans x y z h1 h2 := by
    rw [ltO] at *
    generalize vw x = a at *
    generalize vw y = b at *
    generalize vw z = c at *
    simp only [decide_eq_false_iff_not] at *; omega
theorem totO (x y : Int) (h1 : ltOf cfO x y = false) (h2 : ltOf cfO y x = false) : x = y := by
  rw [ltO] at *
  generalize vw x = a at *
  generalize vw y = b at *
  simp only [decide_eq_false_iff_not] at *; omega

/-- The list in Norm's order. -/
def sortL (xs : List Int) : List Int := xs.mergeSort fun x y => !(ltOf cfO) y x
theorem sortL_len (xs : List Int) : (sortL xs).length = xs.length := by simp [sortL]
/-- What Norm answers. -/
def normL (xs : List Int) : List Int := Lib.compact (sortL xs)
theorem normL_len (xs : List Int) : (normL xs).length ≤ xs.length := by
  have := Lib.compact_length_le (sortL xs)
  rw [sortL_len] at this
  exact this
/-- Whether no place but the first holds the opposite of the one before it. -/
def saysTo (l : List Int) (k : Nat) : Prop := ∀ i, 1 ≤ i → i < k → l.getD i 0 ≠ -(l.getD (i - 1) 0)
def normSays (l : List Int) : Bool := (List.range l.length).all fun i => i == 0 || !(l.getD i 0 == -(l.getD (i - 1) 0))
theorem normSays_true (l : List Int) (h : saysTo l l.length) : normSays l = true := by
  unfold normSays
  rw [List.all_eq_true]
  intro i hi
  rw [List.mem_range] at hi
  by_cases h0 : i = 0
  · simp [h0]
  · have := h i (by omega) hi
    have hb : (l.getD i 0 == -(l.getD (i - 1) 0)) = false := by rw [beq_eq_false_iff_ne]; exact this
    rw [hb]; simp
theorem normSays_false (l : List Int) (k : Nat) (h1 : 1 ≤ k) (h2 : k < l.length) (h : l.getD k 0 = -(l.getD (k - 1) 0)) : normSays l = false := by
  unfold normSays
  rw [List.all_eq_false]
  refine ⟨k, by simpa using h2, ?_⟩
  rw [h]
  have : ¬ k = 0 := by omega
  simp [this]
end Go.Proofs.Ytjlmooimdogmjaa
