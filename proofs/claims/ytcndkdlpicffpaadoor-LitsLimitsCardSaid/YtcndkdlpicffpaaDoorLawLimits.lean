/- The law LitsLimits by its callees' contracts: whatever the input, it returns true and leaves what was there. Conditions: the package's errors lie as 'Sents' says. -/
import Derived.Test.YtcndkdlpicffpaaDoorCheck
import Derived.Test.YtcndkdlpicffpaaDoorFirst
import Derived.Test.YtcndkdlpicffpaaDoorNear
namespace Go.Proofs.YtcndkdlpicffpaaDoor
open Go.RowKit

theorem infoRows : (Tryd.prog.info? 22).map (fun i => (i.zero, i.size, i.bytes)) = some (some (.slice none 0 0), 1, 24) := by kernel_rfl

/-- The law's clauses: l at place m, nothing elsewhere. -/
def limL (N m : Nat) (l : Int) : List (List Int) := (List.range N).map fun i => if i = m then [l] else []
theorem limL_len (N m : Nat) (l : Int) : (limL N m l).length = N := by simp [limL]
theorem limL_get (N m : Nat) (l : Int) (i : Nat) (h : i < N) : (limL N m l).getD i [] = if i = m then [l] else [] := by simp [limL, List.getD, h]
theorem limL_mem (N m : Nat) (l : Int) (xs : List Int) (h : xs ∈ limL N m l) : xs = [] ∨ xs = [l] := by
  simp only [limL, List.mem_map, List.mem_range] at h
  obtain ⟨i, _, rfl⟩ := h
  by_cases e : i = m <;> simp [e]
theorem limL_sum (N m : Nat) (l : Int) : ∀ k, k ≤ N → sumTo (limL N m l) k ≤ k
  | 0, _ => by simp [sumTo]
  | k + 1, h => by
    rw [sumTo_succ _ _ (by rw [limL_len]; omega), limL_get _ _ _ _ (by omega)]
    have := limL_sum N m l k (by omega)
    split <;> simp <;> omega
theorem lim_good (N m : Nat) (vars l : Int) (c : Int) (p : Bool) (k : Int) (h0 : 0 ≤ vars) (h1 : vars ≤ 4000) (hN : N ≤ 9) (hm : m < N) (h : CheckF vars (limL N m l) c p k) :
    (isB vars l = true → c = 0) ∧ (isB vars l = false → c = 104 ∧ p = true ∧ k = m) := by
  have hnt : ¬ tooMuch vars (limL N m l) := by
    rintro (h | h | h | h)
    · omega
    · omega
    · rw [limL_len] at h; omega
    · rw [limL_len] at h; have := limL_sum N m l N (Nat.le_refl _); omega
  have hg := limL_get N m l
  rcases h with ⟨ht, _⟩ | ⟨_, i, ⟨hi, hb, x, hx, hxf⟩, rfl, rfl, rfl⟩ | ⟨_, ha, rfl, rfl, rfl⟩
  · exact absurd ht hnt
  · rw [limL_len] at hi
    rw [hg i hi] at hx
    by_cases e : i = m
    · subst e
      rw [if_pos rfl] at hx
      simp at hx
      subst hx
      exact ⟨fun h => (by rw [hxf] at h; cases h), fun _ => ⟨rfl, rfl, rfl⟩⟩
    · rw [if_neg e] at hx
      simp at hx
  · refine ⟨fun _ => rfl, fun h => ?_⟩
    have : isB vars l = true := ha [l] (by simp only [limL, List.mem_map, List.mem_range]; exact ⟨m, hm, by simp⟩) l (by simp)
    rw [this] at h; cases h

/-- What the loop keeps: the struct's two cells, the row of clauses, each clause. -/
structure Lim (w0 : World) (C : Nat) (vars : Int) (m : Nat) (l : Int) (k : Nat) (w : World) : Prop where
  below : Below w0.heap.size w0 w
  lt : C < w.heap.size
  base : w0.heap.size ≤ C
  vc : w.cell? ⟨C, 0, none⟩ = some (.int .i64 vars)
  fz : w.frozen? ⟨C, 1, none⟩ = false
  ok : ∃ v vs, w.cell? ⟨C, 1, none⟩ = some v ∧ w.ownsRow (C + 1) 22 1 v k vs ∧ ∀ i, i < k → (i ≠ m → vs[i]? = some (.slice none 0 0)) ∧ (i = m → ∃ b, vs[i]? = some (.slice (some ⟨b, 0, none⟩) 1 1) ∧ C < b ∧ b < w.heap.size ∧ w.cell? ⟨b, 0, none⟩ = some (.int .i64 l) ∧ v.ownBlock ≠ some b)

theorem Lim.rows {w0 w : World} {C : Nat} {vars : Int} {m : Nat} {l : Int} {k : Nat} (h : Lim w0 C vars m l k w) : ∃ a c, w.cell? ⟨C, 1, none⟩ = some (.slice a k c) ∧ RowsAt w a c (limL k m l) := by
  obtain ⟨v, vs, hv, hown, hvs⟩ := h.ok
  have hl := hown.1
  obtain ⟨a, c, rfl, h1, h2⟩ := own_shape hown
  refine ⟨a, c, hv, by rw [limL_len]; exact h1, h2, ?_⟩
  rw [limL_len]
  by_cases h0 : k = 0
  · exact .inl h0
  · right
    obtain ⟨g, cap, e, _, hg, _⟩ := own_some hown (by omega)
    injection e with e1 _ e3
    subst e1; subst e3
    refine ⟨g, 0, rfl, hg, fun i hi => ?_⟩
    rw [Nat.zero_add, hown.cellAt i (by omega), limL_get _ _ _ _ hi]
    by_cases e : i = m
    · obtain ⟨b, e1, _, hb, hc, _⟩ := (hvs i hi).2 e
      refine ⟨_, e1, ?_⟩
      rw [if_pos e]
      exact ⟨_, _, rfl, by simp, by unfold maxLen; omega, .inr ⟨b, 0, rfl, hb, fun j hj => by
        match j, hj with
        | 0, _ => exact hc⟩⟩
    · refine ⟨_, (hvs i hi).1 e, ?_⟩
      rw [if_neg e]
      exact Row.nil w

theorem rows1 {W : World} {b1 b0 : Nat} {y : Int} (h1 : W.cell? ⟨b1, 0, none⟩ = some (.slice (some ⟨b0, 0, none⟩) 1 1)) (h0 : W.cell? ⟨b0, 0, none⟩ = some (.int .i64 y)) : RowsAt W (some ⟨b1, 0, none⟩) 1 [[y]] := by
  refine ⟨by simp, by unfold maxLen; omega, .inr ⟨b1, 0, rfl, World.block_lt_of_cell? W _ h1, fun i hi => ?_⟩⟩
  match i, hi with
  | 0, _ => exact ⟨_, h1, _, _, rfl, by simp, by unfold maxLen; omega, .inr ⟨b0, 0, rfl, World.block_lt_of_cell? W _ h0, fun j hj => by
      match j, hj with
      | 0, _ => exact h0⟩⟩
theorem row1 {W : World} {b0 : Nat} {y : Int} (h0 : W.cell? ⟨b0, 0, none⟩ = some (.int .i64 y)) : Row W (.slice (some ⟨b0, 0, none⟩) 1 1) [y] :=
  ⟨_, _, rfl, by simp, by unfold maxLen; omega, .inr ⟨b0, 0, rfl, World.block_lt_of_cell? W _ h0, fun j hj => by
      match j, hj with
      | 0, _ => exact h0⟩⟩

set_option maxHeartbeats 2000000 in
theorem limits_out (A : Nat → Addr) (vars n at' l : Int) (w : World) (hS : Sents w A) (hv1 : -9223372036854775808 ≤ vars) (hv2 : vars ≤ 9223372036854775807) (hl : nearB l = true) (hout : vars < 0 ∨ 4000 < vars) :
    Calls Tryd.prog 4 #[.int .i64 vars, .int .i64 n, .int .i64 at', .int .i64 l] w fun e w' => e = .returned (.bool true) ∧ Below w.heap.size w w' := by
  have HF := Lib.hid first_any
  have HN := Lib.hid (fun (W : World) (b : Nat) (h : W.cell? ⟨b, 0, none⟩ = some (.int .i64 l)) => near_any _ [l] W (row1 h))
  have hall : [l].all nearB = true := by simp [hl]
  rw [hall] at HN
  have HC : Hid (∀ W, Below w.heap.size w W → ∀ b1 b0, W.cell? ⟨b1, 0, none⟩ = some (.slice (some ⟨b0, 0, none⟩) 1 1) → W.cell? ⟨b0, 0, none⟩ = some (.int .i64 0) →
      Calls Tryd.prog 19 #[.agg #[.int .i64 vars, .slice (some ⟨b1, 0, none⟩) 1 1]] W fun e w' => ∃ ev, e = .returned ev ∧ ErrAs w' ev 102 false 0 ∧ Below W.heap.size W w') := by
    intro W hW b1 b0 h1 h0
    refine (check_any A vars _ _ [[0]] W (hS.keep hW) hv1 hv2 (rows1 h1 h0) (by simp) (by simp)).mono ?_
    rintro e w' ⟨ev, c, p, k, rfl, hF, hE, _, _, hb⟩
    have ht : tooMuch vars [[0]] := by
      rcases hout with h | h
      · exact .inl h
      · exact .inr (.inl h)
    rcases hF with ⟨_, rfl, rfl, rfl⟩ | ⟨h, _⟩ | ⟨h, _⟩
    · exact ⟨ev, rfl, hE, hb⟩
    · exact absurd ht h
    · exact absurd ht h
  have HB := Lib.hid bare_any
  have HY := Lib.hid (fun ev W (h : ErrAs W ev 102 false 0) => see_yes ev 102 false 0 W h)
  clear hall hS hl
  by_cases hneg : vars < 0
  all_goals
    first | (have hpos : 4000 < vars := hout.resolve_left hneg; have hd1 : decide (vars < 0) = false := by simpa using hneg) | skip
    clear hout
    go_enter Tryd.func4, Tryd.ntmps4
    go_wp2_with fail
    refine (HF.out _).mono ?_
    rintro e w1 ⟨rfl, hb1⟩
    go_wp2_with fail
    refine (HN.out _ _ (by rw [World.cell?_alloc_at _ _ _ _ rfl]; rfl)).mono ?_
    rintro e w2 ⟨rfl, rfl⟩
    have hsz := hb1.size
    go_wp2_with fail
    refine (HC.out _ (((hb1.alloc hsz _).alloc (by simp; omega) _).alloc (by simp; omega) _) _ _ (by rw [World.cell?_alloc_at _ _ _ _ (by simp)]; rfl) (by rw [World.cell?_alloc_past _ _ _ (by simp), World.cell?_alloc_at _ _ _ _ (by simp)]; rfl)).mono ?_
    rintro e w3 ⟨ev, rfl, hE, hb3⟩
    have hbw := (((hb1.alloc hsz (.cells #[.int .i64 l] 3)).alloc (by simp; omega) (.cells #[.int .i64 0] 3)).alloc (by simp; omega) _).trans (hb3.mono (by simp; omega))
    clear hb3 hb1
    go_wp2_with fail
    refine (HB.out _ _).mono ?_
    rintro e w4 ⟨rfl, hb4⟩
    go_wp2_with fail
    refine (HY.out _ _ (hE.keep hb4)).mono ?_
    rintro e w5 ⟨rfl, hb5⟩
    have hbz := hbw.trans ((hb4.trans (hb5.mono hb4.size)).mono hbw.size)
    go_wp2_with fail
    go_ret
    exact ⟨rfl, hbz⟩

/-- One more clause: nothing. -/
theorem Lim.step {w0 wr w1 : World} {C : Nat} {vars : Int} {m : Nat} {l : Int} {k : Nat} {v v' : Value} {vs : List Value} {y : Value} (h : Lim w0 C vars m l k wr) (hv : wr.cell? ⟨C, 1, none⟩ = some v)
    (hvs : ∀ i, i < k → (i ≠ m → vs[i]? = some (.slice none 0 0)) ∧ (i = m → ∃ b, vs[i]? = some (.slice (some ⟨b, 0, none⟩) 1 1) ∧ C < b ∧ b < wr.heap.size ∧ wr.cell? ⟨b, 0, none⟩ = some (.int .i64 l) ∧ v.ownBlock ≠ some b)) (hk : vs.length = k)
    (wq : World) (hq : Below wr.heap.size wr wq) (hy : (k ≠ m → y = .slice none 0 0) ∧ (k = m → ∃ b, y = .slice (some ⟨b, 0, none⟩) 1 1 ∧ C < b ∧ b < wq.heap.size ∧ wq.cell? ⟨b, 0, none⟩ = some (.int .i64 l) ∧ v.ownBlock ≠ some b))
    (hown' : w1.ownsRow (C + 1) 22 1 v' (k + 1) (vs ++ [y])) (hlo : v.ownBlock ≠ some C) (hap : App (C + 1) wq w1 v v') :
    Lim w0 C vars m l (k + 1) (w1.setCell ⟨C, 1, none⟩ v') := by
  have hCq : C < wq.heap.size := Nat.lt_of_lt_of_le h.lt hq.size
  have hC1 : C < w1.heap.size := Nat.lt_of_lt_of_le hCq hap.below.size
  have keepq : ∀ b o u, b < wr.heap.size → wr.cell? ⟨b, o, none⟩ = some u → wq.cell? ⟨b, o, none⟩ = some u := fun b o u hb e => (hq.cell (p := ⟨b, o, none⟩) hb).trans e
  have keep1 : ∀ b o u, b < wq.heap.size → v.ownBlock ≠ some b → wq.cell? ⟨b, o, none⟩ = some u → w1.cell? ⟨b, o, none⟩ = some u := fun b o u hb hne e => (World.cell?_of_block (w := wq) (a := ⟨b, o, none⟩) (hap.other b hb (Ne.symm hne))).trans e
  have hv1 : ∃ u, w1.cell? ⟨C, 1, none⟩ = some u := ⟨v, keep1 C 1 v hCq hlo (keepq C 1 v h.lt hv)⟩
  obtain ⟨u, hu⟩ := hv1
  have hfz : w1.frozen? ⟨C, 1, none⟩ = false := by
    rw [World.frozen?_of_block (w := wq) (hap.other C hCq (Ne.symm hlo)), hq.frozen (p := ⟨C, 1, none⟩) h.lt]
    exact h.fz
  refine ⟨(h.below.trans ((hq.mono (by have := h.below.size; omega)).trans (hap.below.mono (by have := h.base; omega)))).setCell h.base _, by simpa [World.setCell] using hC1, h.base, ?_, ?_, ⟨v', vs ++ [y], ?_, ownsRow_setCell_below hown' (by simp) _, fun i hi => ?_⟩⟩
  · rw [World.cell?_setCell_other _ _ _ _ (by simp)]
    exact keep1 C 0 _ hCq hlo (keepq C 0 _ h.lt h.vc)
  · rw [World.frozen?_setCell]; exact hfz
  · exact World.cell?_setCell_same _ _ _ hu
  · have hlt : i < k ∨ i = k := by omega
    have cc : ∀ b, C < b → w1.cell? ⟨b, 0, none⟩ = some (.int .i64 l) → (w1.setCell ⟨C, 1, none⟩ v').cell? ⟨b, 0, none⟩ = some (.int .i64 l) := fun b hb e => by
      rw [World.cell?_setCell_other _ _ _ _ (by simp)]; exact e
    rcases hlt with hlt | rfl
    · rw [List.getElem?_append_left (by omega)]
      refine ⟨(hvs i hlt).1, fun e => ?_⟩
      obtain ⟨b, e1, hb1, hb2, hb3, hb4⟩ := (hvs i hlt).2 e
      have hb2' := Nat.lt_of_lt_of_le hb2 hq.size
      exact ⟨b, e1, hb1, by have := hap.below.size; simp [World.setCell]; omega, cc b hb1 (keep1 b 0 _ hb2' hb4 (keepq b 0 _ hb2 hb3)), hap.ne hb2' hb4⟩
    · rw [List.getElem?_append_right (by omega), hk, Nat.sub_self]
      refine ⟨fun e => by rw [hy.1 e]; rfl, fun e => ?_⟩
      obtain ⟨b, e1, hb1, hb2, hb3, hb4⟩ := hy.2 e
      exact ⟨b, by rw [e1]; rfl, hb1, by have := hap.below.size; simp [World.setCell]; omega, cc b hb1 (keep1 b 0 _ hb2 hb4 hb3), hap.ne hb2 hb4⟩

set_option maxHeartbeats 2000000 in
theorem limits_in (A : Nat → Addr) (vars n at' l : Int) (w : World) (hS : Sents w A) (hv1 : 0 ≤ vars) (hv2 : vars ≤ 4000) (hl : nearB l = true) (hl2 : l ≤ 9223372036854775807) :
    Calls Tryd.prog 4 #[.int .i64 vars, .int .i64 n, .int .i64 at', .int .i64 l] w fun e w' => e = .returned (.bool true) ∧ Below w.heap.size w w' := by
  have HF := Lib.hid first_any
  have HN := Lib.hid (fun (W : World) (b : Nat) (h : W.cell? ⟨b, 0, none⟩ = some (.int .i64 l)) => near_any _ [l] W (row1 h))
  have hall : [l].all nearB = true := by simp [hl]
  rw [hall] at HN
  have hl1 := (nearB_iff l).1 hl
  clear hall hl
  have n1 := Int.tmod_lt_of_pos n (show (0 : Int) < 9 by omega)
  have n2 := Int.lt_tmod_of_pos n (show (0 : Int) < 9 by omega)
  obtain ⟨N, hN⟩ : ∃ N : Nat, n.tmod 9 % 9 + 1 = (N : Int) := ⟨(n.tmod 9 % 9 + 1).toNat, by omega⟩
  have hN1 : 1 ≤ N := by omega
  have hN9 : N ≤ 9 := by omega
  have m1 := Int.tmod_lt_of_pos at' (show (0 : Int) < N by omega)
  have m2 := Int.lt_tmod_of_pos at' (show (0 : Int) < N by omega)
  obtain ⟨m, hm⟩ : ∃ m : Nat, (at'.tmod N + N) % N = (m : Int) := ⟨((at'.tmod N + N) % N).toNat, by have := Int.emod_nonneg (at'.tmod N + N) (show (N : Int) ≠ 0 by omega); omega⟩
  have hmN : m < N := by have := Int.emod_lt_of_pos (at'.tmod N + N) (show (0 : Int) < N by omega); omega
  have hNne : ((N : Int) == 0) = false := by simp; omega
  have hd1 : decide (vars < 0) = false := by simp; omega
  have hd2 : decide (4000 < vars) = false := by simp; omega
  have hSS := Lib.hid hS; clear hS
  go_enter Tryd.func4, Tryd.ntmps4
  go_wp2_with fail
  refine (HF.out _).mono ?_
  rintro e w1 ⟨rfl, hb1⟩
  go_wp2_with fail
  refine (HN.out _ _ (by rw [World.cell?_alloc_at _ _ _ _ rfl]; rfl)).mono ?_
  rintro e w2 ⟨rfl, rfl⟩
  have hsz := hb1.size
  go_wp2_with fail
  generalize (at'.tmod (N : Int) + (N : Int)) % (N : Int) = mm at *
  subst hm
  generalize (n.tmod 9 + 9) % 9 = q1 at *
  generalize n.tmod 9 + 9 = q2 at *
  generalize at'.tmod (N : Int) + (N : Int) = q3 at *
  clear hN n1 n2 m1 m2 hNne
  have hL0 : Lim w (w1.heap.size + 1) vars m l 0 ((w1.alloc (.cells #[.int .i64 l] 3)).alloc (.cells #[.int .i64 vars, .slice none 0 0] 25)) :=
    ⟨(hb1.alloc hsz _).alloc (by simp; omega) _, by simp, by omega, by rw [World.cell?_alloc_at _ _ _ _ (by simp)]; rfl, World.frozen?_alloc_at _ _ _ _ (by simp), ⟨_, [], by rw [World.cell?_alloc_at _ _ _ _ (by simp)]; rfl, World.ownsRow_nil _ _ _ _, fun i hi => absurd hi (Nat.not_lt_zero _)⟩⟩
  have HL0 := Lib.hid hL0; clear hL0
  generalize w1.heap.size + 1 = C at *
  generalize ((w1.alloc (.cells #[.int .i64 l] 3)).alloc (.cells #[.int .i64 vars, .slice none 0 0] 25)) = w3 at *
  clear hb1 hsz
  go_loopw [11] (fun i wr => ∃ k : Nat, k ≤ N ∧ i = .int .i64 k ∧ Hid (Lim w C vars m l k wr)) (fun i _ => N - (intOf i).toNat)
  case atStart => exact ⟨0, Nat.zero_le _, rfl, HL0⟩
  case round =>
    obtain ⟨k, hk, rfl, HLM⟩ := hrel
    clear HL0
    by_cases hlt : k < N
    · obtain ⟨v, vs, hv, hown, hvs⟩ := HLM.out.ok
      have hlC := HLM.out.lt
      have hlen : vs.length = k := by simpa using hown.1
      have HVS := Lib.hid hvs; clear hvs
      have HLEN := Lib.hid hlen; clear hlen
      have hlo : v.ownBlock ≠ some C := fun e => by have := (hown.lt C e).1; omega
      have HLO := Lib.hid hlo; clear hlo
      have hfz := HLM.out.fz
      have HV := Lib.hid hv
      have hC2 : ∀ (W W1 : World) (u : Value), App (C + 1) W W1 v u → C < W.heap.size → (∃ z, W.cell? ⟨C, 1, none⟩ = some z) → W.frozen? ⟨C, 1, none⟩ = false → (∃ z, W1.cell? ⟨C, 1, none⟩ = some z) ∧ W1.frozen? ⟨C, 1, none⟩ = false := fun W W1 u hap h1 ⟨z, h2⟩ h3 =>
        ⟨⟨z, (World.cell?_of_block (w := W) (a := ⟨C, 1, none⟩) (hap.other C h1 (Ne.symm HLO.out))).trans h2⟩, (World.frozen?_of_block (w := W) (a := ⟨C, 1, none⟩) (hap.other C h1 (Ne.symm HLO.out))).trans h3⟩
      have HC2 := Lib.hid hC2; clear hC2
      by_cases hkm : k = m
      · have hkb : ((k : Int) == (m : Int)) = true := by simp [hkm]
        have HKM := Lib.hid hkm; clear hkm
        go_wp2_with (at_builtin; refine wpList_appV 23 22 (.slice none 0 0) 24 Tryd.underlying23 infoRows rfl (by decide) rfl _ _ rfl (wr.alloc (.cells #[.int .i64 l] 3)) (C + 1) _ _ _ _ rfl (hown.alloc _) (by simp; omega) (by omega) _ (by simp) rfl rfl ?_; intro v' w4 hown4 hap; obtain ⟨a4, c4, rfl, _, _⟩ := own_shape hown4; obtain ⟨⟨z4, hc4⟩, hf4⟩ := HC2.out _ _ _ hap (by simp; omega) ⟨v, by rw [World.cell?_alloc_past _ _ _ hlC]; exact HV.out⟩ (by rw [World.frozen?_alloc_past _ _ _ hlC]; exact hfz))
        go_roundw
        case rel =>
          refine ⟨k + 1, by omega, by go_num, ?_⟩
          exact HLM.out.step HV.out HVS.out HLEN.out _ ((Below.refl _ wr).alloc (Nat.le_refl _) _) ⟨fun e => absurd HKM.out e, fun _ => ⟨wr.heap.size, rfl, hlC, by simp, by rw [World.cell?_alloc_at _ _ _ _ rfl]; rfl, fun e => by have := (hown.lt _ e).2; omega⟩⟩ hown4 HLO.out hap
        case measure => simp [intOf]; omega
      · have hkb : ((k : Int) == (m : Int)) = false := by simp; omega
        have HKM := Lib.hid hkm; clear hkm
        go_wp2_with (at_builtin; refine wpList_appV 23 22 (.slice none 0 0) 24 Tryd.underlying23 infoRows rfl (by decide) rfl _ _ rfl wr (C + 1) _ _ _ _ rfl hown (by omega) (by omega) _ rfl rfl rfl ?_; intro v' w4 hown4 hap; obtain ⟨a4, c4, rfl, _, _⟩ := own_shape hown4; obtain ⟨⟨z4, hc4⟩, hf4⟩ := HC2.out _ _ _ hap hlC ⟨v, HV.out⟩ hfz)
        go_roundw
        case rel =>
          refine ⟨k + 1, by omega, by go_num, ?_⟩
          exact HLM.out.step HV.out HVS.out HLEN.out _ (Below.refl _ wr) ⟨fun _ => rfl, fun e => absurd e HKM.out⟩ hown4 HLO.out hap
        case measure => simp [intOf]; omega
    · have hkn : k = N := by omega
      subst hkn
      obtain ⟨a5, c5, hc1, hrows⟩ := HLM.out.rows
      have hc0 := HLM.out.vc
      have hbw := HLM.out.below
      have HRW := Lib.hid hrows; clear hrows
      have HIS := Lib.hid (fun W => is_any l vars W (by omega) hl2)
      have HCK := Lib.hid (check_any A vars a5 c5 (limL k m l) wr (hSS.out.keep hbw) (by omega) (by omega) HRW.out (by intro xs hx y hy; rcases limL_mem _ _ _ _ hx with e | e <;> rw [e] at hy <;> simp at hy; omega) (by intro xs hx; rcases limL_mem _ _ _ _ hx with e | e <;> rw [e] <;> simp))
      rw [limL_len] at HCK
      have HLG := Lib.hid (fun c p j (h : CheckF vars (limL k m l) c p j) => lim_good k m vars l c p j hv1 hv2 (by omega) (by omega) h)
      clear HLM hlt hk
      have hltf : decide ((k : Int) < (k : Int)) = false := by simp
      have habs := absI_pos l
      have hab : absI l = l ∨ absI l = -l := by unfold absI; split <;> omega
      have hab0 : absI l = 0 ↔ l = 0 := by unfold absI; split <;> omega
      by_cases hg : l ≠ 0 ∧ l ≤ vars ∧ -vars ≤ l
      · obtain ⟨g1, g2, g3⟩ := hg
        have hisb : (decide (1 ≤ absI l) && decide (absI l ≤ vars)) = true := by simp; omega
        rw [hisb] at HIS
        have HGO := Lib.hid (fun c p j h => (HLG.out c p j h).1 hisb)
        clear hisb habs hab hab0 HLG
        have gb1 : (l != 0) = true := by simp [g1]
        have gb2 : decide (l ≤ vars) = true := by simp [g2]
        have gb3 : decide (-vars ≤ l) = true := by simp [g3]
        go_wp2_with fail
        refine HCK.out.mono ?_
        rintro e w5 ⟨ev, c, p, j, rfl, hF, _, hnil, _, hb5⟩
        have hev := hnil (HGO.out c p j hF)
        subst hev
        clear hnil
        go_wp2_with fail
        refine (HIS.out _).mono ?_
        rintro e w6 ⟨rfl, rfl⟩
        go_wp2_with fail
        go_ret
        exact ⟨rfl, hbw.trans (hb5.mono hbw.size)⟩
      · have hisb : (decide (1 ≤ absI l) && decide (absI l ≤ vars)) = false := by simp; omega
        rw [hisb] at HIS
        have HGO := Lib.hid (fun c p j h => (HLG.out c p j h).2 hisb)
        have HPL := Lib.hid (fun W => placed_any 104 m W (by omega))
        have HY := Lib.hid (fun ev W (h : ErrAs W ev 104 true m) => see_yes ev 104 true m W h)
        clear hisb habs hab hab0 HLG
        have hcase : ((l != 0) = false) ∨ ((l != 0) = true ∧ decide (l ≤ vars) = false) ∨ ((l != 0) = true ∧ decide (l ≤ vars) = true ∧ decide (-vars ≤ l) = false) := by
          by_cases e1 : l = 0
          · left; simp [e1]
          · by_cases e2 : l ≤ vars
            · right; right; exact ⟨by simp [e1], by simp [e2], by simp; omega⟩
            · right; left; exact ⟨by simp [e1], by simp; omega⟩
        clear hg
        rcases hcase with gb1 | ⟨gb1, gb2⟩ | ⟨gb1, gb2, gb3⟩
        all_goals
          go_wp2_with fail
          refine HCK.out.mono ?_
          rintro e w5 ⟨ev, c, p, j, rfl, hF, hE, _, _, hb5⟩
          obtain ⟨rfl, rfl, rfl⟩ := HGO.out c p j hF
          have hbx := hbw.trans (hb5.mono hbw.size)
          clear hF
          go_wp2_with fail
          refine (HPL.out _).mono ?_
          rintro e w6 ⟨rfl, hb6⟩
          go_wp2_with fail
          refine (HY.out _ _ (hE.keep hb6)).mono ?_
          rintro e w7 ⟨rfl, hb7⟩
          have hby := hbx.trans ((hb6.trans (hb7.mono hb6.size)).mono hbx.size)
          go_wp2_with fail
          refine (HIS.out _).mono ?_
          rintro e w8 ⟨rfl, rfl⟩
          go_wp2_with fail
          go_ret
          exact ⟨rfl, hby⟩

set_option maxHeartbeats 2000000 in
theorem limits_far (vars n at' l : Int) (w : World) (hl : nearB l = false) :
    Calls Tryd.prog 4 #[.int .i64 vars, .int .i64 n, .int .i64 at', .int .i64 l] w fun e w' => e = .returned (.bool true) ∧ Below w.heap.size w w' := by
  have HF := Lib.hid first_any
  have HN := Lib.hid (fun (W : World) (b : Nat) (h : W.cell? ⟨b, 0, none⟩ = some (.int .i64 l)) => near_any _ [l] W (row1 h))
  have hall : [l].all nearB = false := by simp [hl]
  rw [hall] at HN
  clear hall hl
  go_enter Tryd.func4, Tryd.ntmps4
  go_wp2_with fail
  refine (HF.out _).mono ?_
  rintro e w1 ⟨rfl, hb1⟩
  go_wp2_with fail
  refine (HN.out _ _ (by rw [World.cell?_alloc_at _ _ _ _ rfl]; rfl)).mono ?_
  rintro e w2 ⟨rfl, rfl⟩
  have hsz := hb1.size
  go_wp2_with fail
  go_ret
  exact ⟨rfl, hb1.alloc hsz _⟩

theorem lawLimits (A : Nat → Addr) (vars n at' l : Int) (w : World) (hS : Sents w A) (hv1 : -9223372036854775808 ≤ vars) (hv2 : vars ≤ 9223372036854775807) (hl2 : l ≤ 9223372036854775807) :
    Calls Tryd.prog 4 #[.int .i64 vars, .int .i64 n, .int .i64 at', .int .i64 l] w fun e w' => e = .returned (.bool true) ∧ Below w.heap.size w w' := by
  cases hl : nearB l with
  | false => exact limits_far vars n at' l w hl
  | true =>
    by_cases hv : 0 ≤ vars ∧ vars ≤ 4000
    · exact limits_in A vars n at' l w hS hv.1 hv.2 hl hl2
    · exact limits_out A vars n at' l w hS hv1 hv2 hl (by omega)
end Go.Proofs.YtcndkdlpicffpaaDoor
