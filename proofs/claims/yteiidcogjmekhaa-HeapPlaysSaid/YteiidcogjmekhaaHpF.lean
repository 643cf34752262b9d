/- A heap of the call's own, as the statements use it ('HSt'): what each call on it answers and leaves; skolemlaw14.first answers true; heaps in which one variable alone has a score ('One'). Conditions: the numbers are 64-bit ints, 60 variables at most. -/
import Derived.Test.YteiidcogjmekhaaHpV
namespace Go.Proofs.Yteiidcogjmekhaa
open Go.RowKit

def HSt (w0 : World) (v : Value) (h : Hp) (W : World) : Prop := ∃ S, HpS W v S h ∧ Below w0.heap.size w0 W ∧ ∀ i ∈ S, w0.heap.size ≤ i
theorem HSt.bel {w0 : World} {v : Value} {h : Hp} {W : World} (hh : HSt w0 v h W) : Below w0.heap.size w0 W := by
  obtain ⟨S, _, h, _⟩ := hh
  exact h
theorem HSt.ptr {w0 : World} {v : Value} {h : Hp} {W : World} (hh : HSt w0 v h W) : ∃ p, v = .pointer (some ⟨p, 0, none⟩) := by
  obtain ⟨S, ⟨p, a, b, t, ca, cb, ct, T, D, e, _⟩, _⟩ := hh
  exact ⟨p, e⟩
theorem HSt.wf {w0 : World} {v : Value} {h : Hp} {W : World} (hh : HSt w0 v h W) : HpW h := by
  obtain ⟨S, h1, _⟩ := hh
  exact h1.wf
theorem HSt.keep {w0 : World} {v : Value} {h : Hp} {W W' : World} (hh : HSt w0 v h W) (hb : Below W.heap.size W W') : HSt w0 v h W' := by
  obtain ⟨S, h1, h2, h3⟩ := hh
  exact ⟨S, h1.below hb, h2.trans (hb.mono h2.size), h3⟩
theorem HSt.post {w0 : World} {v : Value} {S : List Nat} {h' : Hp} {r : Value} {W w' : World} {e : Ending} (hp : HPost W v S h' r e w') (hb : Below w0.heap.size w0 W) (hS : ∀ i ∈ S, w0.heap.size ≤ i) : e = .returned r ∧ HSt w0 v h' w' := by
  obtain ⟨he, ⟨S', hG, hF⟩, hC⟩ := hp
  exact ⟨he, S', hG, hC.below hb hb.size hS, fun i hi => (hF i hi).elim (hS i) (fun h' => Nat.le_trans hb.size h')⟩
theorem hsNew {w0 : World} {W : World} (hb : Below w0.heap.size w0 W) (n : Int) (h1 : -9223372036854775808 ≤ n) (h2 : n ≤ 60) :
    Calls Try.prog 7 #[.int .i64 n] W fun e w' => ∃ v, e = .returned v ∧ HSt w0 v (newH n) w' := by
  refine (hnew_any W n h1 h2).mono ?_
  rintro e w' ⟨v, S, he, hG, hS, hw⟩
  exact ⟨v, he, S, hG, hb.trans (hw.mono hb.size), fun i hi => Nat.le_trans hb.size (hS i hi)⟩
theorem hsPush {w0 : World} {v : Value} {h : Hp} {W : World} (hh : HSt w0 v h W) (x : Int) (h1 : -9223372036854775808 ≤ x) (h2 : x ≤ 9223372036854775807) :
    Calls Try.prog 9 #[v, .int .i64 x] W fun e w' => e = .returned (.bool (pushOk h x)) ∧ HSt w0 v (pushH h x) w' := by
  obtain ⟨S, k1, k2, k3⟩ := hh
  exact (hpush_any W k1 x h1 h2).mono fun e w' hp => HSt.post hp k2 k3
theorem hsPop {w0 : World} {v : Value} {h : Hp} {W : World} (hh : HSt w0 v h W) (x : Int) (h1 : -9223372036854775808 ≤ x) (h2 : x ≤ 9223372036854775807) :
    Calls Try.prog 11 #[v, .int .i64 x] W fun e w' => e = .returned (.tuple #[.int .i64 (popV h x), .bool (popB h)]) ∧ HSt w0 v (popH h x) w' := by
  obtain ⟨S, k1, k2, k3⟩ := hh
  exact (hpop_any W k1 x h1 h2).mono fun e w' hp => HSt.post hp k2 k3
theorem hsBump {w0 : World} {v : Value} {h : Hp} {W : World} (hh : HSt w0 v h W) (x y : Int) (h1 : -9223372036854775808 ≤ y) (h2 : y ≤ 9223372036854775807) :
    Calls Try.prog 13 #[v, .int .i64 x, .int .i64 y] W fun e w' => e = .returned (.int .i64 (bumpA h x y)) ∧ HSt w0 v (bumpH h x y) w' := by
  obtain ⟨S, k1, k2, k3⟩ := hh
  exact (hbump_any W k1 x y h1 h2).mono fun e w' hp => HSt.post hp k2 k3

theorem hsGrow {w0 : World} {v : Value} {h : Hp} {W : World} (hh : HSt w0 v h W) (x : Int) (h1 : -9223372036854775808 ≤ x) (h2 : x ≤ 60) :
    Calls Try.prog 18 #[v, .int .i64 x] W fun e w' => e = .returned (.tuple #[]) ∧ HSt w0 v (growH h x) w' := by
  obtain ⟨S, k1, k2, k3⟩ := hh
  exact (hgrow_any W k1 x h1 h2).mono fun e w' hp => HSt.post hp k2 k3

theorem hsLen {w0 : World} {v : Value} {h : Hp} {W : World} (hh : HSt w0 v h W) :
    Calls Try.prog 20 #[v] W fun e w' => e = .returned (.int .i64 ((manyH h : Nat) : Int)) ∧ W = w' := by
  obtain ⟨S, ⟨p, a, b, t, ca, cb, ct, T, D, rfl, _, h1, _⟩, _⟩ := hh
  exact hlen_any _ W h1.c2
theorem hsHas {w0 : World} {v : Value} {h : Hp} {W : World} (hh : HSt w0 v h W) (x : Int) :
    Calls Try.prog 22 #[v, .int .i64 x] W fun e w' => e = .returned (.bool (hasH h x)) ∧ W = w' := by
  obtain ⟨S, ⟨p, a, b, t, ca, cb, ct, T, D, rfl, _, h1, _, h2, _⟩, _⟩ := hh
  exact hhas_any x W h1 h2.len
theorem hsScore {w0 : World} {v : Value} {h : Hp} {W : World} (hh : HSt w0 v h W) (x : Int) :
    Calls Try.prog 23 #[v, .int .i64 x] W fun e w' => e = .returned (.int .i64 (scoreH h x)) ∧ W = w' := by
  obtain ⟨S, ⟨p, a, b, t, ca, cb, ct, T, D, rfl, _, h1, _⟩, _⟩ := hh
  exact hscore_any x W h1

set_option maxRecDepth 8000 in
set_option maxHeartbeats 2000000 in
theorem first14_any (w : World) :
    Calls Try.prog 6 #[] w fun e w' => e = .returned (.bool true) ∧ Below w.heap.size w w' := by
  have HN := Lib.hid (hsNew (Below.refl w.heap.size w) 1 (by decide) (by decide))
  have HV : Hid (popV (newH 1) 0 = 1) := by unfold Hid; decide
  have HB : Hid (popB (newH 1) = true) := by unfold Hid; decide
  go_enter Try.func6, Try.ntmps6
  go_wp2_with fail
  refine HN.out.mono ?_
  rintro e w1 ⟨v, rfl, hG⟩
  obtain ⟨p, rfl⟩ := hG.ptr
  have H1 := Lib.hid (hsPop hG 0 (by decide) (by decide))
  rw [HV.out, HB.out] at H1
  clear hG
  go_wp2_with fail
  refine H1.out.mono ?_
  rintro e w2 ⟨rfl, hG⟩
  have HBB := Lib.hid hG.bel
  clear hG
  go_wp2_with fail
  go_ret
  exact ⟨rfl, HBB.out⟩

/-! ### One variable alone has a score -/
structure One (h : Hp) (N V : Nat) (x : Int) (b : Bool) : Prop where
  ls : h.ss.length = N + 1
  li : h.ins.length = N + 1
  sc : ∀ u, h.ss.getD u 0 = if u = V then x else 0
  ic : ∀ u, h.ins.getD u false = (decide (1 ≤ u ∧ u ≤ N) && (b || !decide (u = V)))
  mc : manyH h + (if b = true then 0 else 1) = N
theorem One.new (N V : Nat) : One (newH (N : Int)) N V 0 true where
  ls := by simp [newH, growH]
  li := by simp [newH, growH]
  sc := fun u => by
    show (([0] : List Int) ++ _).getD u 0 = _
    rw [getD_grow]
    by_cases e : u = V
    · rw [if_pos e]
      split
      · match u with
        | 0 => rfl
        | u + 1 => simp
      · split <;> rfl
    · rw [if_neg e]
      split
      · match u with
        | 0 => rfl
        | u + 1 => simp
      · split <;> rfl
  ic := fun u => by
    show (([false] : List Bool) ++ _).getD u false = _
    rw [getD_grow]
    match u with
    | 0 => simp
    | u + 1 =>
      rw [if_neg (show ¬ u + 1 < [false].length by simp)]
      by_cases h : u < N
      · rw [if_pos (by simp; omega), decide_eq_true (show 1 ≤ u + 1 ∧ u + 1 ≤ N by omega)]; rfl
      · rw [if_neg (by simp; omega), decide_eq_false (show ¬ (1 ≤ u + 1 ∧ u + 1 ≤ N) by omega)]; rfl
  mc := by
    show (([false] : List Bool) ++ _).count true + _ = N
    rw [count_grow]
    simp
theorem One.bump {h : Hp} {N V : Nat} {x : Int} {b : Bool} (o : One h N V x b) (h1 : 1 ≤ V) (h2 : V ≤ N) (y : Int) : bumpA h (V : Int) y = bumpI x y ∧ One (bumpH h (V : Int) y) N V (bumpI x y) b := by
  have hi : isH h (V : Int) = true := by rw [isH_iff, o.ls]; omega
  have hs : h.ss.getD V 0 = x := by rw [o.sc, if_pos rfl]
  unfold bumpA bumpH
  rw [if_pos hi, if_pos hi, Int.toNat_natCast, hs]
  refine ⟨rfl, by simpa using o.ls, o.li, fun u => ?_, o.ic, o.mc⟩
  show (h.ss.set V _).getD u 0 = _
  rw [getD_setI, o.ls]
  by_cases e : u = V
  · rw [if_pos ⟨e.symm, by omega⟩, if_pos e]
  · rw [if_neg (fun hh => e hh.1.symm), if_neg e, o.sc, if_neg e]
theorem filter_range_one {p : Nat → Bool} {V : Nat} : ∀ k, (∀ u, u < k → p u = decide (u = V)) → (List.range k).filter p = if V < k then [V] else []
  | 0, _ => by simp
  | k + 1, h => by
    rw [List.range_succ, List.filter_append, filter_range_one k (fun u hu => h u (by omega))]
    have hk := h k (by omega)
    by_cases e : k = V
    · subst e
      rw [if_neg (by omega), if_pos (by omega)]
      simp [hk]
    · by_cases hlt : V < k
      · rw [if_pos hlt, if_pos (by omega)]
        simp [hk, e]
      · rw [if_neg hlt, if_neg (by omega)]
        simp [hk, e]
theorem One.best {h : Hp} {N V : Nat} {x : Int} (o : One h N V x true) (h1 : 1 ≤ V) (h2 : V ≤ N) (hx : 0 < x) : bestL h = [(V : Int)] := by
  have hc : candL h.ss h.ins x h.ss.length = [(V : Int)] := by
    unfold candL
    rw [filter_range_one (V := V) _ (fun u hu => ?_), o.ls, if_pos (by omega)]
    · rfl
    · unfold candP
      rw [o.ic, o.sc]
      by_cases e : u = V
      · subst e; simp [h1, h2]
      · have : ¬ (0 : Int) = x := by omega
        simp [e, this]
  unfold bestL
  rw [best_eq (fun v => by rw [o.sc]; split <;> omega) (s := x) (fun v _ _ => by rw [o.sc]; split <;> omega) (by rw [hc]; simp), hc]
theorem One.pop {h : Hp} {N V : Nat} {x : Int} (o : One h N V x true) (h1 : 1 ≤ V) (h2 : V ≤ N) (hx : 0 < x) (tie : Int) : popV h tie = (V : Int) ∧ popB h = true ∧ One (popH h tie) N V x false := by
  have hb := o.best h1 h2 hx
  have hv : popV h tie = (V : Int) := by
    unfold popV
    rw [hb, if_neg (by simp)]
    simp
  have hin : h.ins.getD V false = true := by rw [o.ic]; simp [h1, h2]
  refine ⟨hv, by unfold popB; rw [hb]; rfl, ?_⟩
  unfold popH
  rw [hb, if_neg (by simp), hv, Int.toNat_natCast]
  refine ⟨o.ls, by simpa using o.li, o.sc, fun u => ?_, ?_⟩
  · show (h.ins.set V false).getD u false = _
    rw [getD_setI, o.li]
    by_cases e : u = V
    · rw [if_pos ⟨e.symm, by omega⟩]; simp [e]
    · rw [if_neg (fun hh => e hh.1.symm), o.ic]; simp [e]
  · have hc := count_off hin
    have hm := o.mc
    unfold manyH at hm ⊢
    simp at hm ⊢
    omega
theorem One.out {h : Hp} {N V : Nat} {x : Int} (o : One h N V x false) (h1 : 1 ≤ V) (h2 : V ≤ N) : hasH h (V : Int) = false ∧ ((manyH h : Nat) : Int) = (N : Int) - 1 ∧ pushOk h (V : Int) = true ∧ One (pushH h (V : Int)) N V x true := by
  have hin : h.ins.getD V false = false := by rw [o.ic]; simp
  have hi : isH h (V : Int) = true := by rw [isH_iff, o.ls]; omega
  have hp : pushOk h (V : Int) = true := by unfold pushOk; rw [hi, Int.toNat_natCast, hin]; rfl
  refine ⟨by unfold hasH; rw [Int.toNat_natCast, hin]; simp, by have := o.mc; simp at this; omega, hp, ?_⟩
  unfold pushH
  rw [if_pos hp, Int.toNat_natCast]
  refine ⟨o.ls, by simpa using o.li, o.sc, fun u => ?_, ?_⟩
  · show (h.ins.set V true).getD u false = _
    rw [getD_setI, o.li]
    by_cases e : u = V
    · rw [if_pos ⟨e.symm, by omega⟩]; simp [e, h1, h2]
    · rw [if_neg (fun hh => e hh.1.symm), o.ic]; simp [e]
  · have hc := count_on (l := h.ins) (v := V) (by rw [o.li]; omega) hin
    have hm := o.mc
    unfold manyH at hm ⊢
    simp at hm ⊢
    omega
theorem One.inn {h : Hp} {N V : Nat} {x : Int} (o : One h N V x true) (h1 : 1 ≤ V) (h2 : V ≤ N) : pushOk h (V : Int) = false ∧ pushH h (V : Int) = h := by
  have hin : h.ins.getD V false = true := by rw [o.ic]; simp [h1, h2]
  have hp : pushOk h (V : Int) = false := by unfold pushOk; rw [Int.toNat_natCast, hin]; simp
  exact ⟨hp, by unfold pushH; rw [hp]; rfl⟩
theorem One.grow {h : Hp} {N V : Nat} {x : Int} (o : One h N V x true) (h2 : V ≤ N) (M : Nat) (hM : N ≤ M) : One (growH h (M : Int)) M V x true where
  ls := by simp [growH, o.ls]; omega
  li := by simp [growH, o.ls, o.li]; omega
  sc := fun u => by
    show (h.ss ++ _).getD u 0 = _
    rw [getD_grow, o.ls]
    split
    · exact o.sc u
    · rw [if_neg (show ¬ u = V by omega)]
      split <;> rfl
  ic := fun u => by
    show (h.ins ++ _).getD u false = _
    rw [getD_grow, o.li, o.ls, Int.toNat_natCast]
    split
    · rw [o.ic]
      have : (1 ≤ u ∧ u ≤ N) ↔ (1 ≤ u ∧ u ≤ M) := by omega
      simp [this]
    · split
      · have : 1 ≤ u ∧ u ≤ M := by omega
        simp [this]
      · have : ¬ (1 ≤ u ∧ u ≤ M) := by omega
        simp [this]
  mc := by
    have hm := o.mc
    unfold manyH at hm ⊢
    show (h.ins ++ _).count true + _ = M
    rw [count_grow, o.ls, Int.toNat_natCast]
    simp at hm ⊢
    omega
end Go.Proofs.Yteiidcogjmekhaa
