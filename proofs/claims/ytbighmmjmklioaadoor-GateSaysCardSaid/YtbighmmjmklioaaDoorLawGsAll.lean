/- Plain facts: a literal of these variables. Nothing of the program. · Contracts of skolemmake.Clauses and CNF: clauses of right literals, not too many, in memory of the call's own. Conditions: the slice reads as 64-bit ints and is short; 1 to 100 variables. · The contract of skolemmake.Clauses as a function of the numbers. Conditions: the slice reads as 64-bit ints and is short; 1 to 100 variables. · Contracts of skolemref.SamePairs, SameCircuit at what reads alike: true; of skolemlaw8.code at an error that reads as a number. Conditions: those typed. · The law GateSays: true for whatever arguments. Conditions: the slices read as 64-bit ints; the two errors lie as 'Sents2' says. -/
import Derived.Test.YtbighmmjmklioaaDoorPlain
import Derived.Test.YtbighmmjmklioaaDoorClIG
import Derived.Test.YtbighmmjmklioaaDoorSmall
import Derived.Deep.Light
import Derived.Deep.RegionWith
import Derived.Test.YtbighmmjmklioaaDoorCir
import Derived.Test.YtbighmmjmklioaaDoorRead
import Derived.Test.YtbighmmjmklioaaDoorFault
import Derived.Test.YtbighmmjmklioaaDoorGlF
namespace Go.Proofs.YtbighmmjmklioaaDoor

def isF (l vars : Int) : Bool := decide (l ≠ 0) && (decide (l ≤ vars) && decide (-vars ≤ l))
end Go.Proofs.YtbighmmjmklioaaDoor

namespace Go.Proofs.YtbighmmjmklioaaDoor
open Go.RowKit

set_option maxHeartbeats 400000 in
theorem number_big (n : Int) (w : World) (h1 : -9223372036854775808 ≤ n) (h2 : n ≤ 9223372036854775807) :
    Calls Tryd.prog 12 #[.int .i64 n, .int .i64 1099511627776] w fun e w' => e = .returned (.int .i64 (n % 1099511627776)) ∧ w = w' := by
  have t1 := Int.tmod_lt_of_pos n (show (0 : Int) < 1099511627776 by omega)
  have t2 : -1099511627776 < n.tmod 1099511627776 := Int.lt_tmod_of_pos n (by omega)
  have t3 : n.tmod 1099511627776 < 0 → n.tmod 1099511627776 + 1099511627776 = n % 1099511627776 := fun h => by
    rw [Int.emod_eq_tmod, if_neg]
    · simp
    · intro h'
      rcases h' with h' | h'
      · have := Int.tmod_nonneg 1099511627776 h'; omega
      · rw [Int.tmod_eq_zero_of_dvd h'] at h; omega
  have t4 : ¬ n.tmod 1099511627776 < 0 → n.tmod 1099511627776 = n % 1099511627776 := fun h => by
    rw [Int.emod_eq_tmod, if_pos]
    · simp
    · by_cases h0 : 0 ≤ n
      · exact .inl h0
      · right
        have hneg := Int.tmod_nonneg (a := -n) 1099511627776 (by omega)
        rw [Int.neg_tmod] at hneg
        have h0' : n.tmod 1099511627776 = 0 := by omega
        exact Int.dvd_of_tmod_eq_zero h0'
  have H3 := Lib.hid t3; clear t3
  have H4 := Lib.hid t4; clear t4
  by_cases hneg : n.tmod 1099511627776 < 0
  · go_enter Tryd.func12, Tryd.ntmps12
    go_wp2
    go_ret
    exact ⟨ret_int (H3.out hneg), rfl⟩
  · go_enter Tryd.func12, Tryd.ntmps12
    go_wp2
    go_ret
    exact ⟨ret_int (H4.out hneg), rfl⟩

/-- The clauses made of k numbers. -/
structure Good (m : Int) (dn : List (List Int)) (cur : List Int) (k : Nat) : Prop where
  l1 : ∀ c ∈ dn, ∀ l ∈ c, l ≠ 0 ∧ isF l m = true
  l2 : ∀ l ∈ cur, l ≠ 0 ∧ isF l m = true
  sum : (dn.map List.length).sum + cur.length ≤ k
  len : dn.length + (if cur = [] then 0 else 1) ≤ k
theorem litOf_good (n m : Int) (h : 1 ≤ m) : litOf n m ≠ 0 ∧ isF (litOf n m) m = true := by
  have h1 := litOf_bd n m (by omega)
  unfold isF
  simp
  exact ⟨h1.1, h1.2.2, h1.2.1⟩
theorem Good.start (m : Int) : Good m [] [] 0 := ⟨fun _ h => (by cases h), fun _ h => (by cases h), by simp, by simp⟩
theorem Good.add {m : Int} {dn : List (List Int)} {cur : List Int} {k : Nat} (h : Good m dn cur k) (n : Int) (hm : 1 ≤ m) : Good m dn (cur ++ [litOf n m]) (k + 1) := by
  refine ⟨h.l1, fun l hl => ?_, by have := h.sum; simp; omega, by have := h.len; simp; split at this <;> omega⟩
  rw [List.mem_append] at hl
  rcases hl with hl | hl
  · exact h.l2 l hl
  · have e : l = litOf n m := by simpa using hl
    subst e
    exact litOf_good n m hm
theorem Good.push {m : Int} {dn : List (List Int)} {cur : List Int} {k : Nat} (h : Good m dn cur k) (hc : cur ≠ []) : Good m (dn ++ [cur]) [] k := by
  refine ⟨fun c hc => ?_, fun _ h => (by cases h), by have := h.sum; simp; omega, by have := h.len; rw [if_neg hc] at this; simp; omega⟩
  rw [List.mem_append] at hc
  rcases hc with hc | hc
  · exact h.l1 c hc
  · have e : c = cur := by simpa using hc
    subst e
    exact h.l2
theorem Good.last {m : Int} {dn : List (List Int)} {k : Nat} (h : Good m dn [] k) : (∀ c ∈ dn, ∀ l ∈ c, l ≠ 0 ∧ isF l m = true) ∧ (dn.map List.length).sum ≤ k ∧ dn.length ≤ k := ⟨h.l1, by have := h.sum; simp at this; omega, by have := h.len; simp at this; omega⟩
theorem Good.last' {m : Int} {dn : List (List Int)} {k n : Nat} (h : Good m dn [] k) (hk : k ≤ n) : (∀ c ∈ dn, ∀ l ∈ c, l ≠ 0 ∧ isF l m = true) ∧ (dn.map List.length).sum ≤ n ∧ dn.length ≤ n := ⟨h.last.1, by have := h.last.2.1; omega, by have := h.last.2.2; omega⟩
def MakePost (w : World) (n : Nat) (m : Int) (e : Ending) (w' : World) : Prop :=
  (∃ v xss, e = .returned v ∧ CRow w' w.heap.size v xss ∧ (∀ c ∈ xss, ∀ l ∈ c, l ≠ 0 ∧ isF l m = true) ∧ (xss.map List.length).sum ≤ n ∧ xss.length ≤ n) ∧ Below w.heap.size w w'

set_option maxRecDepth 4000 in
set_option maxHeartbeats 4000000 in
theorem makeCl_any (a : Option Addr) (c : Nat) (cs : List Int) (m : Int) (w : World) (hm1 : 1 ≤ m) (hm2 : m ≤ 100) (hv : RowAt w a c cs) (hcs : ∀ y ∈ cs, -9223372036854775808 ≤ y ∧ y ≤ 9223372036854775807) (hn : cs.length ≤ 200) :
    Calls Tryd.prog 23 #[.slice a cs.length c, .int .i64 m] w (MakePost w cs.length m) := by
  obtain ⟨hvc, hcm, hv⟩ := hv
  unfold maxLen at hcm
  have HX := Lib.hid hv; clear hv
  have HC := Lib.hid (fun k => show -9223372036854775808 ≤ cs.getD k 0 ∧ cs.getD k 0 ≤ 9223372036854775807 by
    by_cases hk : k < cs.length
    · have := hcs _ (List.getElem_mem hk); simpa [List.getD, hk] using this
    · simp [List.getD, show cs.length ≤ k by omega])
  clear hcs
  generalize cs.length = n at *
  go_enter Tryd.func23, Tryd.ntmps23
  go_wp2_with fail
  go_loopw [5, 6, 7] (fun o c i wr => ∃ (k : Nat) (vs : List Value) (dn : List (List Int)) (cur : List Int), k ≤ n ∧ i = .int .i64 k ∧ ClG wr w.heap.size o c vs dn cur ∧ Below w.heap.size w wr ∧ dn.length ≤ k ∧ cur.length ≤ k ∧ Hid (Good m dn cur k)) (fun _ _ i _ => n - (intOf i).toNat)
  case atStart => exact ⟨0, _, _, _, Nat.zero_le _, rfl, ClG.start w _, Below.refl _ _, Nat.le_refl _, Nat.le_refl _, Good.start m⟩
  case round =>
    obtain ⟨k, vs, dn, cur, hk, rfl, hI, hbr, hl1, hl2, HG0⟩ := hrel
    have hownc := hI.row
    obtain ⟨ac, capc, rfl, hcc1, hcc2⟩ := own_shape hI.row
    unfold maxLen at hcc2
    by_cases hlt : k < n
    · obtain ⟨b, off, ha, hb, hx⟩ := HX.out.resolve_left (by omega)
      subst ha
      have HG := Lib.hid (fun W (h : Below w.heap.size w W) => (h.cell (p := ⟨b, off + k, none⟩) hb).trans (hx k hlt))
      have hbd := HC.out k
      clear hx
      generalize cs.getD k 0 = z at *
      obtain ⟨hz1, hz2⟩ := hbd
      have g1 := HG.out _ hbr
      have N7 := Lib.hid (fun W => number_any z 7 W (by omega) (by omega) hz1 hz2)
      have NB := Lib.hid (fun W => number_big z W hz1 hz2)
      have hx1 := Int.emod_nonneg z (show (1099511627776 : Int) ≠ 0 by omega)
      have hx2 := Int.emod_lt_of_pos z (show (0 : Int) < 1099511627776 by omega)
      have hr1 := Int.emod_nonneg z (show (7 : Int) ≠ 0 by omega)
      generalize z % 7 = r at *
      generalize z % 1099511627776 = x at *
      have LT := Lib.hid (fun (y : Int) W (h1 : -9223372036854775808 ≤ y) (h2 : y ≤ 9223372036854775807) => lit_any y m W (by omega) (by omega) h1 h2)
      have HBR := Lib.hid hbr
      clear hbr
      have hd1 := Int.tdiv_nonneg hx1 (show (0 : Int) ≤ 7 by omega)
      have hd2 := Int.tdiv_le_self 7 hx1
      have hl3 : cur = [] ↔ cur.length = 0 := List.length_eq_zero_iff.symm
      by_cases hr0 : r = 0
      · subst hr0
        by_cases hc0 : cur.length = 0
        · generalize hcl : cur.length = cl at *
          subst hc0
          have HCL := Lib.hid hcl
          clear hl3 hcl
          go_wp2_with (first
            | (go_at_call_of 12 (Value.int IntKind.i64 (7 : Int)); refine (N7.out _).mono ?_; rintro e w' ⟨rfl, rfl⟩)
            | (go_at_call 12; refine (NB.out _).mono ?_; rintro e w' ⟨rfl, rfl⟩)
            | (go_at_call 50; refine (LT.out _ _ (by omega) (by omega)).mono ?_; rintro e w' ⟨rfl, rfl⟩)
            | (at_builtin; refine wpList_app1 rfl _ _ rfl wr w.heap.size _ _ _ _ hownc HBR.out.size (by omega) rfl rfl ?_; intro v' w2 hown2 hap))
          go_roundw
          case rel => exact ⟨k + 1, vs, dn, cur ++ [_], by omega, by go_num, hI.add hap (by rw [HCL.out]; exact hown2), HBR.out.trans hap.below, by omega, by rw [List.length_append, HCL.out, List.length_singleton]; omega, HG0.out.add _ hm1⟩
          case measure => go_light; simp [intOf]; omega
        · have hne : cur ≠ [] := fun e => hc0 (hl3.1 e)
          clear hl3
          generalize hcl : cur.length = cl at *
          have HCL := Lib.hid hcl
          clear hcl
          go_wp2_with (first
            | (go_at_call_of 12 (Value.int IntKind.i64 (7 : Int)); refine (N7.out _).mono ?_; rintro e w' ⟨rfl, rfl⟩)
            | (go_at_call 12; refine (NB.out _).mono ?_; rintro e w' ⟨rfl, rfl⟩)
            | (go_at_call 50; refine (LT.out _ _ (by omega) (by omega)).mono ?_; rintro e w' ⟨rfl, rfl⟩)
            | (at_builtin; refine wpList_appV 36 22 (.slice none 0 0) 24 Tryd.underlying36 infoInts rfl (by decide) rfl _ _ rfl wr w.heap.size _ _ _ _ rfl hI.out HBR.out.size (by omega) _ rfl rfl rfl ?_; intro o' w2 ho2 hap2; have hI2 := hI.push hap2 ho2; have HB2 := Lib.hid (HBR.out.trans hap2.below); have g2 := HG.out _ HB2.out)
            | (at_builtin; refine wpList_app1 rfl _ _ rfl w2 w.heap.size _ _ _ _ hI2.row HB2.out.size (by simp) rfl rfl ?_; intro v' w3 hown3 hap3))
          go_roundw
          case rel => exact ⟨k + 1, _, _, [] ++ [_], by omega, by go_num, hI2.add hap3 hown3, HB2.out.trans hap3.below, by simp; omega, by simp, (HG0.out.push hne).add _ hm1⟩
          case measure => go_light; simp [intOf]; omega
      · have hr0b : (r == 0) = false := by simp [hr0]
        by_cases hc5 : 5 ≤ cur.length
        · have hne : cur ≠ [] := fun e => by have := hl3.1 e; omega
          clear hl3 hr0
          generalize hcl : cur.length = cl at *
          have HCL := Lib.hid hcl
          clear hcl
          go_wp2_with (first
            | (go_at_call_of 12 (Value.int IntKind.i64 (7 : Int)); refine (N7.out _).mono ?_; rintro e w' ⟨rfl, rfl⟩)
            | (go_at_call 12; refine (NB.out _).mono ?_; rintro e w' ⟨rfl, rfl⟩)
            | (go_at_call 50; refine (LT.out _ _ (by omega) (by omega)).mono ?_; rintro e w' ⟨rfl, rfl⟩)
            | (at_builtin; refine wpList_appV 36 22 (.slice none 0 0) 24 Tryd.underlying36 infoInts rfl (by decide) rfl _ _ rfl wr w.heap.size _ _ _ _ rfl hI.out HBR.out.size (by omega) _ rfl rfl rfl ?_; intro o' w2 ho2 hap2; have hI2 := hI.push hap2 ho2; have HB2 := Lib.hid (HBR.out.trans hap2.below); have g2 := HG.out _ HB2.out)
            | (at_builtin; refine wpList_app1 rfl _ _ rfl w2 w.heap.size _ _ _ _ hI2.row HB2.out.size (by simp) rfl rfl ?_; intro v' w3 hown3 hap3))
          go_roundw
          case rel => exact ⟨k + 1, _, _, [] ++ [_], by omega, by go_num, hI2.add hap3 hown3, HB2.out.trans hap3.below, by simp; omega, by simp, (HG0.out.push hne).add _ hm1⟩
          case measure => go_light; simp [intOf]; omega
        · clear hl3 hr0
          generalize hcl : cur.length = cl at *
          have HCL := Lib.hid hcl
          clear hcl
          go_wp2_with (first
            | (go_at_call_of 12 (Value.int IntKind.i64 (7 : Int)); refine (N7.out _).mono ?_; rintro e w' ⟨rfl, rfl⟩)
            | (go_at_call 12; refine (NB.out _).mono ?_; rintro e w' ⟨rfl, rfl⟩)
            | (go_at_call 50; refine (LT.out _ _ (by omega) (by omega)).mono ?_; rintro e w' ⟨rfl, rfl⟩)
            | (at_builtin; refine wpList_app1 rfl _ _ rfl wr w.heap.size _ _ _ _ hownc HBR.out.size (by omega) rfl rfl ?_; intro v' w2 hown2 hap))
          go_roundw
          case rel => exact ⟨k + 1, vs, dn, cur ++ [_], by omega, by go_num, hI.add hap (by rw [HCL.out]; exact hown2), HBR.out.trans hap.below, by omega, by rw [List.length_append, HCL.out, List.length_singleton]; omega, HG0.out.add _ hm1⟩
          case measure => go_light; simp [intOf]; omega
    · by_cases hc0 : cur.length = 0
      · have hc0' : cur = [] := List.length_eq_zero_iff.1 hc0
        subst hc0'
        obtain ⟨ao, capo, rfl, hrows⟩ := hI.rows
        have HRW := Lib.hid (show CRow _ _ _ _ from ⟨_, _, _, hI⟩)
        have HBR := Lib.hid hbr
        clear hrows hI hownc hc0 hbr hl2 hcc1 hcc2
        have hkn : k = n := by omega
        subst hkn
        go_wp2_with fail
        go_ret
        exact ⟨⟨_, dn, rfl, HRW.out, HG0.out.last⟩, HBR.out⟩
      · have hne : cur ≠ [] := fun e => hc0 (by rw [e]; rfl)
        have HBR := Lib.hid hbr
        clear hbr
        generalize hcl : cur.length = cl at *
        have HCL := Lib.hid hcl
        clear hcl
        go_wp2_with (at_builtin; refine wpList_appV 36 22 (.slice none 0 0) 24 Tryd.underlying36 infoInts rfl (by decide) rfl _ _ rfl wr w.heap.size _ _ _ _ rfl hI.out HBR.out.size (by omega) _ rfl rfl rfl ?_; intro o' w2 ho2 hap2; have hI2 := hI.push hap2 ho2; have HB2 := Lib.hid (HBR.out.trans hap2.below); obtain ⟨ao, capo, rfl, hrows⟩ := hI2.rows)
        go_ret
        have hI3 := hI2
        rw [show (dn ++ [cur]).length = dn.length + 1 by simp] at hI3
        exact ⟨⟨_, dn ++ [cur], rfl, ⟨_, _, _, hI3⟩, (HG0.out.push hne).last' hk⟩, HB2.out⟩

end Go.Proofs.YtbighmmjmklioaaDoor

namespace Go.Proofs.YtbighmmjmklioaaDoor
open Go.RowKit

/-- One number more: the clauses done, the clause begun. -/
def stepC (m : Int) (s : List (List Int) × List Int) (z : Int) : List (List Int) × List Int :=
  if (z % 7 = 0 ∧ s.2.length ≠ 0) ∨ 5 ≤ s.2.length then (s.1 ++ [s.2], [litOf (z % 1099511627776 / 7) m]) else (s.1, s.2 ++ [litOf (z % 1099511627776 / 7) m])
def FC (m : Int) (cs : List Int) (k : Nat) (dn : List (List Int)) (cur : List Int) : Prop := (cs.take k).foldl (stepC m) ([], []) = (dn, cur)
/-- The clauses made of these numbers. -/
def clsOf (m : Int) (cs : List Int) : List (List Int) :=
  if (cs.foldl (stepC m) ([], [])).2.length = 0 then (cs.foldl (stepC m) ([], [])).1 else (cs.foldl (stepC m) ([], [])).1 ++ [(cs.foldl (stepC m) ([], [])).2]
theorem FC.start (m : Int) (cs : List Int) : FC m cs 0 [] [] := rfl
theorem FC.step {m : Int} {cs : List Int} {k : Nat} {dn : List (List Int)} {cur : List Int} (h : FC m cs k dn cur) (hk : k < cs.length) : (cs.take (k + 1)).foldl (stepC m) ([], []) = stepC m (dn, cur) (cs.getD k 0) := by
  unfold FC at h
  rw [List.take_succ_eq_append_getElem hk, List.foldl_append, h]
  simp [List.getD, hk]
theorem FC.stay {m : Int} {cs : List Int} {k : Nat} {dn : List (List Int)} {cur : List Int} (h : FC m cs k dn cur) (hk : k < cs.length) (y : Int) (hy : y = cs.getD k 0 % 1099511627776 / 7) (h1 : cs.getD k 0 % 7 = 0 → cur.length = 0) (h2 : ¬ 5 ≤ cur.length) : FC m cs (k + 1) dn (cur ++ [litOf y m]) := by
  unfold FC
  rw [h.step hk]
  unfold stepC
  rw [if_neg, hy]
  rintro (⟨g1, g2⟩ | g)
  · exact g2 (h1 g1)
  · exact h2 g
theorem FC.push {m : Int} {cs : List Int} {k : Nat} {dn : List (List Int)} {cur : List Int} (h : FC m cs k dn cur) (hk : k < cs.length) (y : Int) (hy : y = cs.getD k 0 % 1099511627776 / 7) (h1 : (cs.getD k 0 % 7 = 0 ∧ cur.length ≠ 0) ∨ 5 ≤ cur.length) : FC m cs (k + 1) (dn ++ [cur]) ([] ++ [litOf y m]) := by
  unfold FC
  rw [h.step hk]
  unfold stepC
  rw [if_pos h1, hy]
  rfl
theorem FC.none {m : Int} {cs : List Int} {k : Nat} {dn : List (List Int)} (h : FC m cs k dn []) (hk : cs.length = k) : clsOf m cs = dn := by
  unfold FC at h
  rw [← hk, List.take_length] at h
  unfold clsOf
  rw [h]
  rfl
theorem FC.some {m : Int} {cs : List Int} {k : Nat} {dn : List (List Int)} {cur : List Int} (h : FC m cs k dn cur) (hk : cs.length = k) (hc : cur ≠ []) : clsOf m cs = dn ++ [cur] := by
  unfold FC at h
  rw [← hk, List.take_length] at h
  unfold clsOf
  rw [h, if_neg]
  exact fun e => hc (List.length_eq_zero_iff.1 e)
def MakePostF (w : World) (cs : List Int) (m : Int) (e : Ending) (w' : World) : Prop :=
  (∃ v, e = .returned v ∧ CRow w' w.heap.size v (clsOf m cs) ∧ (∀ c ∈ clsOf m cs, ∀ l ∈ c, l ≠ 0 ∧ isF l m = true) ∧ ((clsOf m cs).map List.length).sum ≤ cs.length ∧ (clsOf m cs).length ≤ cs.length) ∧ Below w.heap.size w w'

set_option maxRecDepth 4000 in
set_option maxHeartbeats 4000000 in
theorem makeClF_any (a : Option Addr) (c : Nat) (cs : List Int) (m : Int) (w : World) (hm1 : 1 ≤ m) (hm2 : m ≤ 100) (hv : RowAt w a c cs) (hcs : ∀ y ∈ cs, -9223372036854775808 ≤ y ∧ y ≤ 9223372036854775807) (hn : cs.length ≤ 200) :
    Calls Tryd.prog 23 #[.slice a cs.length c, .int .i64 m] w (MakePostF w cs m) := by
  obtain ⟨hvc, hcm, hv⟩ := hv
  unfold maxLen at hcm
  have HX := Lib.hid hv; clear hv
  have HC := Lib.hid (fun k => show -9223372036854775808 ≤ cs.getD k 0 ∧ cs.getD k 0 ≤ 9223372036854775807 by
    by_cases hk : k < cs.length
    · have := hcs _ (List.getElem_mem hk); simpa [List.getD, hk] using this
    · simp [List.getD, show cs.length ≤ k by omega])
  clear hcs
  unfold MakePostF
  generalize hnn : cs.length = n at *
  have HN := Lib.hid hnn
  clear hnn
  go_enter Tryd.func23, Tryd.ntmps23
  go_wp2_with fail
  go_loopw [5, 6, 7] (fun o c i wr => ∃ (k : Nat) (vs : List Value) (dn : List (List Int)) (cur : List Int), k ≤ n ∧ i = .int .i64 k ∧ ClG wr w.heap.size o c vs dn cur ∧ Below w.heap.size w wr ∧ dn.length ≤ k ∧ cur.length ≤ k ∧ Hid (Good m dn cur k) ∧ Hid (FC m cs k dn cur)) (fun _ _ i _ => n - (intOf i).toNat)
  case atStart => exact ⟨0, _, _, _, Nat.zero_le _, rfl, ClG.start w _, Below.refl _ _, Nat.le_refl _, Nat.le_refl _, Good.start m, FC.start m cs⟩
  case round =>
    obtain ⟨k, vs, dn, cur, hk, rfl, hI, hbr, hl1, hl2, HG0, HF0⟩ := hrel
    have hownc := hI.row
    obtain ⟨ac, capc, rfl, hcc1, hcc2⟩ := own_shape hI.row
    unfold maxLen at hcc2
    by_cases hlt : k < n
    · obtain ⟨b, off, ha, hb, hx⟩ := HX.out.resolve_left (by omega)
      subst ha
      have HG := Lib.hid (fun W (h : Below w.heap.size w W) => (h.cell (p := ⟨b, off + k, none⟩) hb).trans (hx k hlt))
      have hbd := HC.out k
      have HS1 := Lib.hid (fun (y : Int) (hy : y = cs.getD k 0 % 1099511627776 / 7) (h1 : cs.getD k 0 % 7 = 0 → cur.length = 0) (h2 : ¬ 5 ≤ cur.length) => FC.stay HF0.out (by rw [HN.out]; exact hlt) y hy h1 h2)
      have HS2 := Lib.hid (fun (y : Int) (hy : y = cs.getD k 0 % 1099511627776 / 7) (h1 : (cs.getD k 0 % 7 = 0 ∧ cur.length ≠ 0) ∨ 5 ≤ cur.length) => FC.push HF0.out (by rw [HN.out]; exact hlt) y hy h1)
      clear HF0
      clear hx
      generalize cs.getD k 0 = z at *
      obtain ⟨hz1, hz2⟩ := hbd
      have g1 := HG.out _ hbr
      have N7 := Lib.hid (fun W => number_any z 7 W (by omega) (by omega) hz1 hz2)
      have NB := Lib.hid (fun W => number_big z W hz1 hz2)
      have hx1 := Int.emod_nonneg z (show (1099511627776 : Int) ≠ 0 by omega)
      have hx2 := Int.emod_lt_of_pos z (show (0 : Int) < 1099511627776 by omega)
      have hr1 := Int.emod_nonneg z (show (7 : Int) ≠ 0 by omega)
      generalize z % 7 = r at *
      generalize z % 1099511627776 = x at *
      have LT := Lib.hid (fun (y : Int) W (h1 : -9223372036854775808 ≤ y) (h2 : y ≤ 9223372036854775807) => lit_any y m W (by omega) (by omega) h1 h2)
      have HBR := Lib.hid hbr
      clear hbr
      have hd1 := Int.tdiv_nonneg hx1 (show (0 : Int) ≤ 7 by omega)
      have hd2 := Int.tdiv_le_self 7 hx1
      have hl3 : cur = [] ↔ cur.length = 0 := List.length_eq_zero_iff.symm
      have HX1 := Lib.hid hx1
      by_cases hr0 : r = 0
      · subst hr0
        by_cases hc0 : cur.length = 0
        · have HQ1 : Hid ((0 : Int) = 0 → cur.length = 0) := fun _ => hc0
          have HQ2 : Hid (¬ 5 ≤ cur.length) := fun h => by omega
          generalize hcl : cur.length = cl at *
          subst hc0
          have HCL := Lib.hid hcl
          clear hl3 hcl
          go_wp2_with (first
            | (go_at_call_of 12 (Value.int IntKind.i64 (7 : Int)); refine (N7.out _).mono ?_; rintro e w' ⟨rfl, rfl⟩)
            | (go_at_call 12; refine (NB.out _).mono ?_; rintro e w' ⟨rfl, rfl⟩)
            | (go_at_call 50; refine (LT.out _ _ (by omega) (by omega)).mono ?_; rintro e w' ⟨rfl, rfl⟩)
            | (at_builtin; refine wpList_app1 rfl _ _ rfl wr w.heap.size _ _ _ _ hownc HBR.out.size (by omega) rfl rfl ?_; intro v' w2 hown2 hap))
          go_roundw
          case rel => exact ⟨k + 1, vs, dn, cur ++ [_], by omega, by go_num, hI.add hap (by rw [HCL.out]; exact hown2), HBR.out.trans hap.below, by omega, by rw [List.length_append, HCL.out, List.length_singleton]; omega, HG0.out.add _ hm1, HS1.out _ (by first | rfl | exact Int.tdiv_eq_ediv_of_nonneg HX1.out) HQ1.out HQ2.out⟩
          case measure => go_light; simp [intOf]; omega
        · have hne : cur ≠ [] := fun e => hc0 (hl3.1 e)
          have HQ3 : Hid (((0 : Int) = 0 ∧ cur.length ≠ 0) ∨ 5 ≤ cur.length) := .inl ⟨rfl, hc0⟩
          clear hl3
          generalize hcl : cur.length = cl at *
          have HCL := Lib.hid hcl
          clear hcl
          go_wp2_with (first
            | (go_at_call_of 12 (Value.int IntKind.i64 (7 : Int)); refine (N7.out _).mono ?_; rintro e w' ⟨rfl, rfl⟩)
            | (go_at_call 12; refine (NB.out _).mono ?_; rintro e w' ⟨rfl, rfl⟩)
            | (go_at_call 50; refine (LT.out _ _ (by omega) (by omega)).mono ?_; rintro e w' ⟨rfl, rfl⟩)
            | (at_builtin; refine wpList_appV 36 22 (.slice none 0 0) 24 Tryd.underlying36 infoInts rfl (by decide) rfl _ _ rfl wr w.heap.size _ _ _ _ rfl hI.out HBR.out.size (by omega) _ rfl rfl rfl ?_; intro o' w2 ho2 hap2; have hI2 := hI.push hap2 ho2; have HB2 := Lib.hid (HBR.out.trans hap2.below); have g2 := HG.out _ HB2.out)
            | (at_builtin; refine wpList_app1 rfl _ _ rfl w2 w.heap.size _ _ _ _ hI2.row HB2.out.size (by simp) rfl rfl ?_; intro v' w3 hown3 hap3))
          go_roundw
          case rel => exact ⟨k + 1, _, _, [] ++ [_], by omega, by go_num, hI2.add hap3 hown3, HB2.out.trans hap3.below, by simp; omega, by simp, (HG0.out.push hne).add _ hm1, HS2.out _ (by first | rfl | exact Int.tdiv_eq_ediv_of_nonneg HX1.out) HQ3.out⟩
          case measure => go_light; simp [intOf]; omega
      · have hr0b : (r == 0) = false := by simp [hr0]
        by_cases hc5 : 5 ≤ cur.length
        · have hne : cur ≠ [] := fun e => by have := hl3.1 e; omega
          have HQ3 : Hid ((r = 0 ∧ cur.length ≠ 0) ∨ 5 ≤ cur.length) := .inr hc5
          clear hl3 hr0
          generalize hcl : cur.length = cl at *
          have HCL := Lib.hid hcl
          clear hcl
          go_wp2_with (first
            | (go_at_call_of 12 (Value.int IntKind.i64 (7 : Int)); refine (N7.out _).mono ?_; rintro e w' ⟨rfl, rfl⟩)
            | (go_at_call 12; refine (NB.out _).mono ?_; rintro e w' ⟨rfl, rfl⟩)
            | (go_at_call 50; refine (LT.out _ _ (by omega) (by omega)).mono ?_; rintro e w' ⟨rfl, rfl⟩)
            | (at_builtin; refine wpList_appV 36 22 (.slice none 0 0) 24 Tryd.underlying36 infoInts rfl (by decide) rfl _ _ rfl wr w.heap.size _ _ _ _ rfl hI.out HBR.out.size (by omega) _ rfl rfl rfl ?_; intro o' w2 ho2 hap2; have hI2 := hI.push hap2 ho2; have HB2 := Lib.hid (HBR.out.trans hap2.below); have g2 := HG.out _ HB2.out)
            | (at_builtin; refine wpList_app1 rfl _ _ rfl w2 w.heap.size _ _ _ _ hI2.row HB2.out.size (by simp) rfl rfl ?_; intro v' w3 hown3 hap3))
          go_roundw
          case rel => exact ⟨k + 1, _, _, [] ++ [_], by omega, by go_num, hI2.add hap3 hown3, HB2.out.trans hap3.below, by simp; omega, by simp, (HG0.out.push hne).add _ hm1, HS2.out _ (by first | rfl | exact Int.tdiv_eq_ediv_of_nonneg HX1.out) HQ3.out⟩
          case measure => go_light; simp [intOf]; omega
        · have HQ1 : Hid (r = 0 → cur.length = 0) := fun h => absurd h hr0
          have HQ2 : Hid (¬ 5 ≤ cur.length) := hc5
          clear hl3 hr0
          generalize hcl : cur.length = cl at *
          have HCL := Lib.hid hcl
          clear hcl
          go_wp2_with (first
            | (go_at_call_of 12 (Value.int IntKind.i64 (7 : Int)); refine (N7.out _).mono ?_; rintro e w' ⟨rfl, rfl⟩)
            | (go_at_call 12; refine (NB.out _).mono ?_; rintro e w' ⟨rfl, rfl⟩)
            | (go_at_call 50; refine (LT.out _ _ (by omega) (by omega)).mono ?_; rintro e w' ⟨rfl, rfl⟩)
            | (at_builtin; refine wpList_app1 rfl _ _ rfl wr w.heap.size _ _ _ _ hownc HBR.out.size (by omega) rfl rfl ?_; intro v' w2 hown2 hap))
          go_roundw
          case rel => exact ⟨k + 1, vs, dn, cur ++ [_], by omega, by go_num, hI.add hap (by rw [HCL.out]; exact hown2), HBR.out.trans hap.below, by omega, by rw [List.length_append, HCL.out, List.length_singleton]; omega, HG0.out.add _ hm1, HS1.out _ (by first | rfl | exact Int.tdiv_eq_ediv_of_nonneg HX1.out) HQ1.out HQ2.out⟩
          case measure => go_light; simp [intOf]; omega
    · by_cases hc0 : cur.length = 0
      · have hc0' : cur = [] := List.length_eq_zero_iff.1 hc0
        subst hc0'
        obtain ⟨ao, capo, rfl, hrows⟩ := hI.rows
        have HRW := Lib.hid (show CRow _ _ _ _ from ⟨_, _, _, hI⟩)
        have HBR := Lib.hid hbr
        clear hrows hI hownc hc0 hbr hl2 hcc1 hcc2
        have hkn : k = n := by omega
        subst hkn
        go_wp2_with fail
        go_ret
        rw [FC.none HF0.out HN.out]
        exact ⟨⟨_, rfl, HRW.out, HG0.out.last⟩, HBR.out⟩
      · have hne : cur ≠ [] := fun e => hc0 (by rw [e]; rfl)
        have hkn : k = n := by omega
        have HBR := Lib.hid hbr
        clear hbr
        generalize hcl : cur.length = cl at *
        have HCL := Lib.hid hcl
        clear hcl
        go_wp2_with (at_builtin; refine wpList_appV 36 22 (.slice none 0 0) 24 Tryd.underlying36 infoInts rfl (by decide) rfl _ _ rfl wr w.heap.size _ _ _ _ rfl hI.out HBR.out.size (by omega) _ rfl rfl rfl ?_; intro o' w2 ho2 hap2; have hI2 := hI.push hap2 ho2; have HB2 := Lib.hid (HBR.out.trans hap2.below); obtain ⟨ao, capo, rfl, hrows⟩ := hI2.rows)
        go_ret
        have hI3 := hI2
        rw [show (dn ++ [cur]).length = dn.length + 1 by simp] at hI3
        rw [FC.some HF0.out (HN.out.trans hkn.symm) hne]
        exact ⟨⟨_, rfl, ⟨_, _, _, hI3⟩, (HG0.out.push hne).last' hk⟩, HB2.out⟩

end Go.Proofs.YtbighmmjmklioaaDoor

namespace Go.Proofs.YtbighmmjmklioaaDoor
open Go.RowKit

set_option maxRecDepth 8000 in
set_option maxHeartbeats 2000000 in
theorem samePairs_yes (v u : Value) (ps : List (Int × Int)) (w : World) (hv : PRow w v ps) (hu : PRow w u ps) :
    Calls Tryd.prog 53 #[v, u] w fun e w' => e = .returned (.bool true) ∧ Below w.heap.size w w' := by
  obtain ⟨a, c, rfl, hxc, hcm, hx⟩ := hv
  obtain ⟨a', c', rfl, hyc, hcm', hy⟩ := hu
  unfold maxLen at hcm hcm'
  have HX := Lib.hid hx; clear hx
  have HY := Lib.hid hy; clear hy
  have hne : ((ps.length : Int) != (ps.length : Int)) = false := by simp
  generalize hn : ps.length = n at *
  have HN := Lib.hid hn; clear hn
  go_enter Tryd.func53, Tryd.ntmps53
  go_wp2_with fail
  go_loopw [5, 6] (fun i _ wr => ∃ k q : Nat, k ≤ n ∧ i = .int .i64 k ∧ wr = w.drewN q) (fun i _ _ => n - (intOf i).toNat)
  case atStart => exact ⟨0, 0, Nat.zero_le _, rfl, rfl⟩
  case round =>
    obtain ⟨k, q, hk, rfl, rfl⟩ := hrel
    by_cases hlt : k < n
    · obtain ⟨b, off, ha, hb, hx⟩ := HX.out.resolve_left (by omega)
      obtain ⟨b', off', ha', hb', hy⟩ := HY.out.resolve_left (by omega)
      subst ha; subst ha'
      obtain ⟨x0, x1⟩ := hx k hlt
      obtain ⟨y0, y1⟩ := hy k hlt
      clear hx hy
      generalize (ps.getD k (0, 0)).1 = p0 at *
      generalize (ps.getD k (0, 0)).2 = p1 at *
      go_wp2_with fail
      go_quiet (fail)
      go_wp2_with fail
      go_roundw
      case rel => exact ⟨k + 1, _, by omega, by go_num, rfl⟩
      case measure => simp [intOf]; omega
    · have hkn : k = n := by omega
      subst hkn
      go_wp2_with fail
      go_ret
      exact ⟨rfl, below_drewN (Below.refl _ _) _⟩

set_option maxRecDepth 8000 in
set_option maxHeartbeats 2000000 in
theorem sameCir_yes (n : Int) (u v u' v' : Value) (ps : List (Int × Int)) (os : List Int) (w : World) (h1 : PRow w u ps) (h2 : Row w v os) (h3 : PRow w u' ps) (h4 : Row w v' os) :
    Calls Tryd.prog 26 #[circV n u v, circV n u' v'] w fun e w' => e = .returned (.bool true) ∧ Below w.heap.size w w' := by
  have HP := Lib.hid (fun W (hW : Below w.heap.size w W) => samePairs_yes u u' ps W (h1.keep hW) (h3.keep hW))
  have HI := Lib.hid (fun W (hW : Below w.heap.size w W) => sameInts_yes v v' os os W (h2.keep hW) (h4.keep hW) rfl)
  obtain ⟨a1, c1, rfl, _⟩ := h1
  obtain ⟨a2, c2, rfl, _⟩ := h2
  obtain ⟨a3, c3, rfl, _⟩ := h3
  obtain ⟨a4, c4, rfl, _⟩ := h4
  unfold circV
  generalize ps.length = n1 at *
  generalize os.length = n2 at *
  have HA : Hid (Below w.heap.size w ((w.alloc (.cells #[.int .i64 n, .slice a1 n1 c1, .slice a2 n2 c2] 43)).alloc (.cells #[.int .i64 n, .slice a3 n1 c3, .slice a4 n2 c4] 43))) := ((Below.refl _ w).alloc (Nat.le_refl _) _).alloc (by simp) _
  have hnn : (n == n) = true := by simp
  have HZ : Hid (∀ W, Below (w.heap.size + 2) ((w.alloc (.cells #[.int .i64 n, .slice a1 n1 c1, .slice a2 n2 c2] 43)).alloc (.cells #[.int .i64 n, .slice a3 n1 c3, .slice a4 n2 c4] 43)) W → W.cell? ⟨w.heap.size, 2, none⟩ = some (.slice a2 n2 c2) ∧ W.cell? ⟨w.heap.size + 1, 2, none⟩ = some (.slice a4 n2 c4)) := fun W hW => by
    have hz : (w.alloc (.cells #[.int .i64 n, .slice a1 n1 c1, .slice a2 n2 c2] 43)).heap.size = w.heap.size + 1 := by simp
    have hb : Below (w.heap.size + 1) (w.alloc (.cells #[.int .i64 n, .slice a1 n1 c1, .slice a2 n2 c2] 43)) ((w.alloc (.cells #[.int .i64 n, .slice a1 n1 c1, .slice a2 n2 c2] 43)).alloc (.cells #[.int .i64 n, .slice a3 n1 c3, .slice a4 n2 c4] 43)) := (Below.refl _ _).alloc (by simp) _
    refine ⟨?_, ?_⟩
    · rw [hW.cell (p := ⟨w.heap.size, 2, none⟩) (by simp), hb.cell (p := ⟨w.heap.size, 2, none⟩) (by simp), cell_of_row _ _ 2 _ 43 (0, 0) (heap_alloc_new _ _)]; rfl
    · rw [hW.cell (p := ⟨w.heap.size + 1, 2, none⟩) (by simp), ← hz, cell_of_row _ _ 2 _ 43 (0, 0) (heap_alloc_new _ _)]; rfl
  go_enter Tryd.func26, Tryd.ntmps26
  go_wp2_with fail
  refine (HP.out _ HA.out).mono ?_
  rintro e w1 ⟨rfl, hb1⟩
  have HB1 := Lib.hid (HA.out.trans (hb1.mono HA.out.size))
  obtain ⟨z1, z2⟩ := HZ.out w1 (hb1.mono (by simp))
  clear hb1
  go_wp2_with fail
  refine (HI.out _ HB1.out).mono ?_
  rintro e w2 ⟨rfl, hb2⟩
  go_wp2_with fail
  go_ret
  exact ⟨rfl, HB1.out.trans (hb2.mono HB1.out.size)⟩

theorem fldCode (c : Int) (p : Bool) (k : Int) (w : World) : (Instr.field 88 (.agg #[.int .i64 c, .bool p, .int .i64 k]) 0).run Tryd.prog w = .ok (.int .i64 c) w := by kernel_rfl
set_option maxRecDepth 8000 in
set_option maxHeartbeats 1000000 in
theorem code_any (ev : Value) (c : Int) (p : Bool) (k : Int) (w : World) (h : ErrAs w ev c p k) : Calls Tryd.prog 38 #[ev] w fun e w' => e = .returned (.int .i64 c) ∧ Below w.heap.size w w' := by
  have HE := Lib.hid (h w (Below.refl _ _))
  clear h
  unfold faultV at HE
  have hfd := fldCode c p k
  go_enter Tryd.func38, Tryd.ntmps38
  go_wp2_with fail
  refine HE.out.mono ?_
  rintro e w1 ⟨rfl, hb⟩
  go_wp2_with fail
  go_ret
  exact ⟨rfl, hb⟩
end Go.Proofs.YtbighmmjmklioaaDoor

namespace Go.Proofs.YtbighmmjmklioaaDoor
open Go.RowKit

theorem litsIn_of9 {m : Int} {n : Nat} {cs : List (List Int)} (hm : m = (n : Int)) (h : ∀ c ∈ cs, ∀ l ∈ c, l ≠ 0 ∧ isF l m = true) : LitsIn n cs := fun c hc l hl => by
  have := h c hc l hl
  unfold isF at this
  simp at this
  exact ⟨this.1, by omega⟩
theorem sum_ge99 : ∀ {cs : List (List Int)} {c : List Int}, c ∈ cs → c.length ≤ (cs.map List.length).sum
  | x :: cs, c, h => by
    rw [List.map_cons, List.sum_cons]
    rcases List.mem_cons.1 h with rfl | h
    · omega
    · have := sum_ge99 h; omega
/-- Five gates made one after another, clauses behind them: no error. -/
theorem says_chain {g : Gr} (h : g.Fine) (hl : g.len ≤ 60) {a b c : Int} (ha : g.isB a = true) (hb : g.isB b = true) (hc : g.isB c = true) {xs : List Int} (hx : ∀ x ∈ xs, g.isB x = true) (hxl : xs.length ≤ 30) (r1 r2 r3 r4 r5 : Gr × Int)
    (e1 : r1 = orG g a b) (e2 : r2 = xorG r1.1 a c) (e3 : r3 = muxG r2.1 a b c) (e4 : r4 = allG r3.1 xs) (e5 : r5 = anyG r4.1 xs) :
    r5.1.n = g.n ∧ ∀ cs, LitsIn g.n cs → sumL cs ≤ 60 → cs.length ≤ 60 → (clausesG r5.1 cs).1.bad = 0 := by
  have m1 := orG_mk h a b ha hb (by omega)
  rw [← e1] at m1
  have l1 := m1.len
  have x1 := m1.ext
  have m2 := xorG_mk m1.fine a c (x1.isB ha) (x1.isB hc) (by omega)
  rw [← e2] at m2
  have l2 := m2.len
  have x2 := x1.trans m2.ext
  have m3 := muxG_mk m2.fine a b c (x2.isB ha) (x2.isB hb) (x2.isB hc) (by omega)
  rw [← e3] at m3
  have l3 := m3.len
  have x3 := x2.trans m3.ext
  have m4 := allG_mk m3.fine xs (fun x hm => x3.isB (hx x hm)) (by omega)
  rw [← e4] at m4
  have l4 := m4.len
  have x4 := x3.trans m4.ext
  have m5 := anyG_mk m4.fine xs (fun x hm => x4.isB (hx x hm)) (by omega)
  rw [← e5] at m5
  have l5 := m5.len
  have x5 := x4.trans m5.ext
  refine ⟨x5.1, fun cs h1 h2 h3 => ?_⟩
  exact (clausesG_mk m5.fine cs (by rw [x5.1]; exact h1) (by omega)).bad

set_option maxRecDepth 8000 in
set_option maxHeartbeats 4000000 in
theorem lawGs_out (A : Nat → Addr) (N : Int) (al : Option Addr) (cl ml : Nat) (x y z : Int) (am : Option Addr) (cm mm : Nat) (ad : Option Addr) (cd md : Nat) (w : World) (hS : Sents2 w A) (ho : 80 < ml ∨ 30 < mm ∨ 60 < md ∨ N < 1 ∨ 20 < N) :
    Calls Tryd.prog 3 #[.int .i64 N, .slice al ml cl, .int .i64 x, .int .i64 y, .int .i64 z, .slice am mm cm, .slice ad md cd] w fun e w' => e = .returned (.bool true) ∧ Below w.heap.size w w' := by
  have HF := Lib.hid (first9_any A w hS)
  clear hS
  by_cases d1 : 80 < ml
  · have d1' : decide (80 < ml) = true := decide_eq_true d1
    clear ho
    go_enter Tryd.func3, Tryd.ntmps3
    go_wp2_with fail
    refine HF.out.mono ?_
    rintro e w1 ⟨rfl, hb1⟩
    go_wp2_with fail
    go_ret
    exact ⟨rfl, hb1⟩
  · have d1' : decide (80 < ml) = false := decide_eq_false d1
    by_cases d2 : 30 < mm
    · have d2' : decide (30 < mm) = true := decide_eq_true d2
      clear ho
      go_enter Tryd.func3, Tryd.ntmps3
      go_wp2_with fail
      refine HF.out.mono ?_
      rintro e w1 ⟨rfl, hb1⟩
      go_wp2_with fail
      go_ret
      exact ⟨rfl, hb1⟩
    · have d2' : decide (30 < mm) = false := decide_eq_false d2
      by_cases d3 : 60 < md
      · have d3' : decide (60 < md) = true := decide_eq_true d3
        clear ho
        go_enter Tryd.func3, Tryd.ntmps3
        go_wp2_with fail
        refine HF.out.mono ?_
        rintro e w1 ⟨rfl, hb1⟩
        go_wp2_with fail
        go_ret
        exact ⟨rfl, hb1⟩
      · have d3' : decide (60 < md) = false := decide_eq_false d3
        by_cases d4 : N < 1
        · clear ho
          go_enter Tryd.func3, Tryd.ntmps3
          go_wp2_with fail
          refine HF.out.mono ?_
          rintro e w1 ⟨rfl, hb1⟩
          go_wp2_with fail
          go_ret
          exact ⟨rfl, hb1⟩
        · have d5 : 20 < N := by omega
          clear ho
          go_enter Tryd.func3, Tryd.ntmps3
          go_wp2_with fail
          refine HF.out.mono ?_
          rintro e w1 ⟨rfl, hb1⟩
          go_wp2_with fail
          go_ret
          exact ⟨rfl, hb1⟩

set_option maxRecDepth 8000 in
set_option maxHeartbeats 8000000 in
theorem lawGs_any (A : Nat → Addr) (N0 : Int) (al : Option Addr) (cl : Nat) (ls : List Int) (x y z : Int) (am : Option Addr) (cm : Nat) (ms : List Int) (ad : Option Addr) (cd : Nat) (ds : List Int) (w : World) (hS : Sents2 w A)
    (hvl : RowAt w al cl ls) (hls : ∀ y ∈ ls, -9223372036854775808 ≤ y ∧ y ≤ 9223372036854775807) (hvm : RowAt w am cm ms) (hms : ∀ y ∈ ms, -9223372036854775808 ≤ y ∧ y ≤ 9223372036854775807) (hvd : RowAt w ad cd ds) (hds : ∀ y ∈ ds, -9223372036854775808 ≤ y ∧ y ≤ 9223372036854775807)
    (hx1 : -9223372036854775808 ≤ x) (hx2 : x ≤ 9223372036854775807) (hy1 : -9223372036854775808 ≤ y) (hy2 : y ≤ 9223372036854775807) (hz1 : -9223372036854775808 ≤ z) (hz2 : z ≤ 9223372036854775807) :
    Calls Tryd.prog 3 #[.int .i64 N0, .slice al ls.length cl, .int .i64 x, .int .i64 y, .int .i64 z, .slice am ms.length cm, .slice ad ds.length cd] w fun e w' => e = .returned (.bool true) ∧ Below w.heap.size w w' := by
  by_cases hout : 80 < ls.length ∨ 30 < ms.length ∨ 60 < ds.length ∨ N0 < 1 ∨ 20 < N0
  · exact lawGs_out A N0 al cl ls.length x y z am cm ms.length ad cd ds.length w hS hout
  have HF := Lib.hid (first9_any A w hS)
  have d1 : decide (80 < ls.length) = false := decide_eq_false fun h => hout (.inl h)
  have d2 : decide (30 < ms.length) = false := decide_eq_false fun h => hout (.inr (.inl h))
  have d3 : decide (60 < ds.length) = false := decide_eq_false fun h => hout (.inr (.inr (.inl h)))
  have e1 : ¬ 80 < ls.length := fun h => hout (.inl h)
  have e2 : ¬ 30 < ms.length := fun h => hout (.inr (.inl h))
  have e3 : ¬ 60 < ds.length := fun h => hout (.inr (.inr (.inl h)))
  obtain ⟨N, rfl⟩ : ∃ N : Nat, N0 = (N : Int) := ⟨N0.toNat, by omega⟩
  have d4 : ¬ (N : Int) < 1 := fun h => hout (.inr (.inr (.inr (.inl h))))
  have d5 : ¬ (20 : Int) < (N : Int) := fun h => hout (.inr (.inr (.inr (.inr h))))
  clear hout
  have HE := Lib.hid (env00 hS)
  have HP := Lib.hid (fun W (hB : Below w.heap.size w W) => pair9_any A N (by omega) al cl ls w W hS hB hvl hls (by omega))
  have HMK := Lib.hid (fun W (hW : Below w.heap.size w W) => makeClF_any ad cd ds (N : Int) W (by omega) (by omega) (hvd.keep hW) hds (by omega))
  unfold MakePostF at HMK
  generalize hcs : clsOf (N : Int) ds = cs at *
  have HDL : Hid (ds.length ≤ 60) := by unfold Hid; omega
  obtain ⟨hm1, hm2, hm3⟩ := hvm
  unfold maxLen at hm2
  have HV := Lib.hid hm3; clear hm3
  have HMB : Hid (∀ k, k < ms.length → -9223372036854775808 ≤ ms.getD k 0 ∧ ms.getD k 0 ≤ 9223372036854775807) := fun k hk => hms _ (by simp [List.getD, hk])
  clear hcs hms hS hvl hls hvd hds
  generalize ls.length = nl at *
  generalize ms.length = m at *
  generalize ds.length = nd at *
  go_enter Tryd.func3, Tryd.ntmps3
  go_wp2_with fail
  refine HF.out.mono ?_
  rintro e w1 ⟨rfl, hb1⟩
  have HPW := Lib.hid (HP.out _ hb1)
  clear hb1 HP HF
  go_wp2_with fail
  refine HPW.out.mono ?_
  rintro e w2 ⟨p, q, g, rfl, hP, hfine, hgn, hgl⟩
  have HLE := Lib.hid (piRLen hP)
  clear hP HPW
  have HIB : Hid (∀ r : Int, 0 ≤ r → r < 2 * (g.len : Int) + 2 → g.isB r = true) := fun r h0 h1 => isB_lt g r h0 h1
  have bx := mod_pos9 x (2 * (g.len : Int) + 2) (by omega)
  have by' := mod_pos9 y (2 * (g.len : Int) + 2) (by omega)
  have bz := mod_pos9 z (2 * (g.len : Int) + 2) (by omega)
  have NX := Lib.hid (fun W => number_any x (2 * (g.len : Int) + 2) W (by omega) (by omega) hx1 hx2)
  have NY := Lib.hid (fun W => number_any y (2 * (g.len : Int) + 2) W (by omega) (by omega) hy1 hy2)
  have NZ := Lib.hid (fun W => number_any z (2 * (g.len : Int) + 2) W (by omega) (by omega) hz1 hz2)
  have NK := Lib.hid (fun t W (h1 : -9223372036854775808 ≤ t) (h2 : t ≤ 9223372036854775807) => number_any t (2 * (g.len : Int) + 2) W (by omega) (by omega) h1 h2)
  have HMP := Lib.hid (fun t => mod_pos9 t (2 * (g.len : Int) + 2) (by omega))
  generalize x % (2 * (g.len : Int) + 2) = xa at *
  generalize y % (2 * (g.len : Int) + 2) = xb at *
  generalize z % (2 * (g.len : Int) + 2) = xc at *
  obtain ⟨a0, a1⟩ := bx
  obtain ⟨b0, b1⟩ := by'
  obtain ⟨c0, c1⟩ := bz
  have HCH := Lib.hid (fun (xs : List Int) (hx : ∀ x ∈ xs, 0 ≤ x ∧ x < 2 * (g.len : Int) + 2) (hl : xs.length ≤ 30) => says_chain hfine hgl (HIB.out xa a0 a1) (HIB.out xb b0 b1) (HIB.out xc c0 c1) (xs := xs) (fun x hm => HIB.out x (hx x hm).1 (hx x hm).2) hl _ _ _ _ _ rfl rfl rfl rfl rfl)
  have HGN := Lib.hid hgn
  have a2 : xa ≤ 1000 := by omega
  have b2 : xb ≤ 1000 := by omega
  have c2 : xc ≤ 1000 := by omega
  have HO1 := Lib.hid (fun r W (h : PIn (GP A p) (GR q) w [] [] g r W) => h.call1 (gopP A _) (rgKind _) HE.out fun _ hE' hG _ _ => gor_any (gopP A _) hE' (GIn.refl hG) xa xb a0 (by omega) b0 (by omega))
  have HO2 := Lib.hid (fun g' W (h : PIn (GP A p) (GR q) w [] [] g' g W) => h.call2 (gopR _) (grKind A _) trivial fun _ hE' hG _ _ => ror_any (gopR _) hE' (GIn.refl hG) xa xb a0 (by omega) b0 (by omega))
  have HX1 := Lib.hid (fun g' r W (h : PIn (GP A p) (GR q) w [] [] g' r W) => h.call1 (gopP A _) (rgKind _) HE.out fun _ hE' hG _ _ => gxor_any (gopP A _) hE' (GIn.refl hG) xa xc a0 (by omega) c0 (by omega))
  have HX2 := Lib.hid (fun g' r W (h : PIn (GP A p) (GR q) w [] [] g' r W) => h.call2 (gopR _) (grKind A _) trivial fun _ hE' hG _ _ => rxor_any (gopR _) hE' (GIn.refl hG) xa xc a0 (by omega) c0 (by omega))
  have HM1 := Lib.hid (fun g' r W (h : PIn (GP A p) (GR q) w [] [] g' r W) => h.call1 (gopP A _) (rgKind _) HE.out fun _ hE' hG _ _ => gmux_any (gopP A _) hE' (GIn.refl hG) xa xb xc a0 (by omega) b0 (by omega) c0 (by omega))
  have HM2 := Lib.hid (fun g' r W (h : PIn (GP A p) (GR q) w [] [] g' r W) => h.call2 (gopR _) (grKind A _) trivial fun _ hE' hG _ _ => rmux_any (gopR _) hE' (GIn.refl hG) xa xb xc a0 (by omega) b0 (by omega) c0 (by omega))
  clear hfine hgn HIB
  generalize hr1 : orG g xa xb = r1 at *
  have HX1 := Lib.hid (HX1.out r1.1)
  have HX2 := Lib.hid (fun g' => HX2.out g' r1.1)
  generalize hr2 : xorG r1.1 xa xc = r2 at *
  have HM1 := Lib.hid (HM1.out r2.1)
  have HM2 := Lib.hid (fun g' => HM2.out g' r2.1)
  generalize hr3 : muxG r2.1 xa xb xc = r3 at *
  clear hr1 hr2 hr3
  go_wp2_with fail
  refine HLE.out.mono ?_
  rintro e w3 ⟨rfl, hP⟩
  have HA1 := Lib.hid (HO1.out _ _ hP)
  clear hP HO1
  go_wp2_with fail
  refine (NX.out _).mono ?_
  rintro e w' ⟨rfl, rfl⟩
  go_wp2_with fail
  refine (NY.out _).mono ?_
  rintro e w' ⟨rfl, rfl⟩
  go_wp2_with fail
  refine (NZ.out _).mono ?_
  rintro e w' ⟨rfl, rfl⟩
  go_wp2_with fail
  refine HA1.out.mono ?_
  rintro e w4 ⟨rfl, hP⟩
  have HA2 := Lib.hid (HO2.out _ _ hP)
  clear hP HO2
  go_wp2_with fail
  refine HA2.out.mono ?_
  rintro e w5 ⟨rfl, hP⟩
  have HA3 := Lib.hid (HX1.out _ _ hP)
  clear hP
  go_wp2_with fail
  refine HA3.out.mono ?_
  rintro e w6 ⟨rfl, hP⟩
  have HA4 := Lib.hid (HX2.out _ _ hP)
  clear hP
  go_wp2_with fail
  refine HA4.out.mono ?_
  rintro e w7 ⟨rfl, hP⟩
  have HA5 := Lib.hid (HM1.out _ _ hP)
  clear hP
  go_wp2_with fail
  refine HA5.out.mono ?_
  rintro e w8 ⟨rfl, hP⟩
  have HA6 := Lib.hid (HM2.out _ _ hP)
  clear hP
  go_wp2_with fail
  refine HA6.out.mono ?_
  rintro e w9 ⟨rfl, hP⟩
  have HP9 := Lib.hid hP
  clear hP HA1 HA2 HA3 HA4 HA5 HA6 HX1 HX2 HM1 HM2
  go_wp2_with fail
  go_loopw [20, 19] (fun i u wr => ∃ (k : Nat) (xs : List Int), k ≤ m ∧ i = .int .i64 k ∧ wr.ownsRow w9.heap.size 3 1 u k (xs.map (Value.int .i64)) ∧ Below w9.heap.size w9 wr ∧ Hid (∀ x ∈ xs, 0 ≤ x ∧ x < 2 * (g.len : Int) + 2) ∧ Hid (xs.length = k)) (fun i _ _ => m - (intOf i).toNat)
  case atStart => exact ⟨0, [], Nat.zero_le _, rfl, World.ownsRow_nil _ _ _ _, Below.refl _ _, fun x hx => (by cases hx), rfl⟩
  case round =>
    obtain ⟨k, xs, hk, rfl, hown, hbr, HXS, HXL⟩ := hrel
    obtain ⟨ab, cb, rfl, _, hcb⟩ := own_shape hown
    unfold maxLen at hcb
    by_cases hlt : k < m
    · obtain ⟨b, off, ha, hb, hc⟩ := HV.out.resolve_left (by omega)
      subst ha
      have hb7 : Below w.heap.size w wr := HP9.out.below.trans (hbr.mono HP9.out.below.size)
      have q0 := (hb7.cell (p := ⟨b, off + k, none⟩) hb).trans (hc k hlt)
      obtain ⟨z1, z2⟩ := HMB.out k hlt
      clear hc hb7
      generalize ms.getD k 0 = y at *
      have NKK := Lib.hid (NK.out y wr z1 z2)
      obtain ⟨t0, t1⟩ := HMP.out y
      generalize y % (2 * (g.len : Int) + 2) = t at *
      have hsz := hbr.size
      have HBR := Lib.hid hbr
      have HXN : Hid (∀ x ∈ xs ++ [t], 0 ≤ x ∧ x < 2 * (g.len : Int) + 2) := fun x hx => by
        rcases List.mem_append.1 hx with h | h
        · exact HXS.out x h
        · rw [List.mem_singleton] at h; subst h; exact ⟨t0, t1⟩
      clear hbr
      go_wp2_with (first
        | (go_at_call 12; refine NKK.out.mono ?_; rintro e w' ⟨rfl, rfl⟩)
        | (at_builtin; refine wpList_app1 rfl _ _ rfl wr w9.heap.size _ _ _ t hown hsz (by omega) rfl rfl ?_; intro u' w5 hown5 hap5))
      go_roundw
      case rel => exact ⟨k + 1, xs ++ [t], by omega, by go_num, hown5, HBR.out.trans hap5.below, HXN.out, by unfold Hid; simp [HXL.out]⟩
      case measure => simp [intOf]; omega
    · have hkm : m = k := by omega
      subst hkm
      have HXL2 : Hid (xs.length ≤ 30) := by unfold Hid; rw [HXL.out]; omega
      have HCC := Lib.hid (HCH.out xs HXS.out HXL2.out)
      have HXB : Hid (∀ l ∈ xs, 0 ≤ l ∧ l ≤ 19000) := fun l hl => by have := HXS.out l hl; omega
      have HMID : Hid (∃ S2 T2, EnvP A wr (S2 ++ T2) ∧ PIn (GP A p) (GR q) wr S2 T2 r3.1 r3.1 wr ∧ OffI wr (S2 ++ T2) (.slice ab xs.length cb) xs ∧ ∀ g' r' W', PIn (GP A p) (GR q) wr S2 T2 g' r' W' → PIn (GP A p) (GR q) w [] [] g' r' W') := by
        obtain ⟨S2, T2, h1, h2, h3, h4⟩ := HP9.out.rebase (gopP A _) (rgKind _) HE.out hbr
        exact ⟨S2, T2, h1, h2, by rw [HXL.out]; exact OffI.of_own hown h3, h4⟩
      obtain ⟨S2, T2, hE2, hP2, ho2, hback2⟩ := HMID.out
      have HBK2 := Lib.hid hback2
      have HL1 := Lib.hid (hP2.call1 (gopP A _) (rgKind _) hE2 fun _ hE' hG hF hC => gall_any (gopP A _) hE' (GIn.refl hG) _ xs (ho2.later hC hF) (fun l hl => by have := HXB.out l hl; omega))
      have HL2 := Lib.hid (fun g' W (h : PIn (GP A p) (GR q) wr S2 T2 g' r3.1 W) => h.call2 (gopR _) (grKind A _) trivial fun _ hE' hG hF hC => rall_any (gopR _) hE' (GIn.refl hG) _ xs (ho2.later hC hF) (fun l hl => by have := HXB.out l hl; omega))
      have HN1 := Lib.hid (fun g' r W (h : PIn (GP A p) (GR q) wr S2 T2 g' r W) => h.call1 (gopP A _) (rgKind _) hE2 fun _ hE' hG hF hC => gany_any (gopP A _) hE' (GIn.refl hG) _ xs (ho2.later hC hF) HXB.out (by have := HXL2.out; omega))
      have HN2 := Lib.hid (fun g' r W (h : PIn (GP A p) (GR q) wr S2 T2 g' r W) => h.call2 (gopR _) (grKind A _) trivial fun _ hE' hG hF hC => rany_any (gopR _) hE' (GIn.refl hG) _ xs (ho2.later hC hF) HXB.out (by have := HXL2.out; omega))
      rw [HXL.out] at HL1 HL2 HN1 HN2
      generalize hr4 : allG r3.1 xs = r4 at *
      have HN1 := Lib.hid (HN1.out r4.1)
      have HN2 := Lib.hid (fun g' => HN2.out g' r4.1)
      generalize hr5 : anyG r4.1 xs = r5 at *
      clear hr4 hr5 hE2 hP2 ho2 hback2 HMID hown hbr hcb HP9 HCH
      obtain ⟨h5n, h5c⟩ := HCC.out
      have H5N : Hid (r5.1.n = N) := h5n.trans HGN.out
      have H5C : Hid (∀ cs, LitsIn N cs → sumL cs ≤ 60 → cs.length ≤ 60 → (clausesG r5.1 cs).1.bad = 0) := fun cs h => h5c cs (by rw [HGN.out]; exact h)
      clear h5n h5c HCC
      go_wp2_with fail
      refine HL1.out.mono ?_
      rintro e w10 ⟨rfl, hP⟩
      have HB1 := Lib.hid (HL2.out _ _ hP)
      clear hP
      go_wp2_with fail
      refine HB1.out.mono ?_
      rintro e w11 ⟨rfl, hP⟩
      have HB2 := Lib.hid (HN1.out _ _ hP)
      clear hP
      go_wp2_with fail
      refine HB2.out.mono ?_
      rintro e w12 ⟨rfl, hP⟩
      have HB3 := Lib.hid (HN2.out _ _ hP)
      clear hP
      go_wp2_with fail
      refine HB3.out.mono ?_
      rintro e w13 ⟨rfl, hP⟩
      have HP13 := Lib.hid (HBK2.out _ _ _ hP)
      have HM13 := Lib.hid (HMK.out _ HP13.out.below)
      clear hP HB1 HB2 HB3 HL1 HL2 HN1 HN2 HMK
      go_wp2_with fail
      refine HM13.out.mono ?_
      rintro e w14 ⟨⟨vc, rfl, hC, hlit, hsum, hcl⟩, hb14⟩
      have hdl := HDL.out
      have HLI := Lib.hid (litsIn_of9 (m := (N : Int)) (n := r5.1.n) (by rw [H5N.out]) hlit)
      have HLI2 := Lib.hid (litsIn_of9 (m := (N : Int)) (n := N) rfl hlit)
      have HSZ : Hid (∀ c ∈ cs, c.length ≤ 1000) := fun c hc => by have := sum_ge99 hc; omega
      have HCL : Hid (cs.length ≤ 1000) := by unfold Hid; omega
      have HBAD := Lib.hid (H5C.out cs HLI2.out (by unfold sumL; omega) (by omega))
      have HMID : Hid (∃ S3 T3, EnvP A w14 (S3 ++ T3) ∧ PIn (GP A p) (GR q) w14 S3 T3 r5.1 r5.1 w14 ∧ OffC w14 (S3 ++ T3) vc cs ∧ ∀ g' r' W', PIn (GP A p) (GR q) w14 S3 T3 g' r' W' → PIn (GP A p) (GR q) w [] [] g' r' W') := by
        obtain ⟨S3, T3, h1, h2, h3, h4⟩ := HP13.out.rebase (gopP A _) (rgKind _) HE.out hb14
        exact ⟨S3, T3, h1, h2, hC.off h3, h4⟩
      obtain ⟨ac, cc, rfl, _⟩ := hC.rows
      obtain ⟨S3, T3, hE3, hP3, ho3, hback3⟩ := HMID.out
      have HBK3 := Lib.hid hback3
      have HQ1 := Lib.hid (hP3.call1 (gopP A _) (rgKind _) hE3 fun _ hE' hG hF hC => gcl0_any (gopP A _) hE' hG _ cs (ho3.later hC hF) HLI.out HSZ.out HCL.out)
      have HQ2 := Lib.hid (fun g' W (h : PIn (GP A p) (GR q) w14 S3 T3 g' r5.1 W) => h.call2 (gopR _) (grKind A _) trivial fun _ hE' hG hF hC => rcl0_any (gopR _) hE' hG _ cs (ho3.later hC hF) HLI.out HSZ.out HCL.out)
      clear hC hlit hsum hcl hb14 hdl hE3 hP3 ho3 hback3 HMID HP13 HM13 H5C H5N
      generalize clausesG r5.1 cs = r6 at *
      go_wp2_with fail
      refine HQ1.out.mono ?_
      rintro e w15 ⟨rfl, hP⟩
      have HB1 := Lib.hid (HQ2.out _ _ hP)
      clear hP
      go_wp2_with fail
      refine HB1.out.mono ?_
      rintro e w16 ⟨rfl, hP⟩
      have HP16 := Lib.hid (HBK3.out _ _ _ hP)
      have HC1 := Lib.hid (piCirc HP16.out (.slice none 0 0) [] (Row.nil9 _) (by simp))
      clear hP HB1 HQ1 HQ2
      unfold CirPost at HC1
      go_wp2_with fail
      refine HC1.out.mono ?_
      rintro e w17 ⟨⟨u, v, rfl, hu, hvv⟩, hb17⟩
      have HP17 := Lib.hid (HP16.out.keep (grKind A _) (rgKind _) hb17)
      have HC2 := Lib.hid (piRCirc HP17.out (.slice none 0 0) [] (Row.nil9 _) (by simp))
      have HU := Lib.hid (fun W hW => (own_prow hu).keep (w' := W) hW)
      have HVV := Lib.hid (fun W hW => (own_row hvv).keep (w' := W) hW)
      obtain ⟨au, cu, rfl, _, _⟩ := row_shape hu
      obtain ⟨av, cv, rfl, _, _⟩ := row_shape hvv
      unfold CirPost at HC2
      unfold circV
      clear hu hvv hb17
      go_wp2_with fail
      refine HC2.out.mono ?_
      rintro e w18 ⟨⟨u2, v2, rfl, hu2, hvv2⟩, hb18⟩
      have HP18 := Lib.hid (HP17.out.keep (grKind A _) (rgKind _) hb18)
      have HSC := Lib.hid (sameCir_yes (r6.1.n : Int) _ _ _ _ r6.1.ands [] w18 (HU.out _ hb18) (HVV.out _ hb18) (own_prow hu2) (own_row hvv2))
      obtain ⟨au2, cu2, rfl, _, _⟩ := row_shape hu2
      obtain ⟨av2, cv2, rfl, _, _⟩ := row_shape hvv2
      unfold circV at HSC ⊢
      clear hu2 hvv2 hb18
      go_wp2_with fail
      refine HSC.out.mono ?_
      rintro e w19 ⟨rfl, hb19⟩
      have HP19 := Lib.hid (HP18.out.keep (grKind A _) (rgKind _) hb19)
      have HER := Lib.hid (giErr HP19.out.one)
      rw [HBAD.out, show errC A 0 = .nilIface from rfl] at HER
      have HBE := Lib.hid HP19.out.below
      clear hb19
      go_wp2_with fail
      refine HER.out.mono ?_
      rintro e w' ⟨rfl, rfl⟩
      go_wp2_with fail
      go_ret
      exact ⟨rfl, HBE.out⟩
end Go.Proofs.YtbighmmjmklioaaDoor
