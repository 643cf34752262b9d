/- Contracts of skolemmake.Clauses and CNF: clauses of right literals, not too many, in memory of the call's own. Conditions: the slice reads as 64-bit ints and is short; 1 to 100 variables. -/
import Derived.Test.YtmlgpnaikdpifaaClIG
import Derived.Test.YtmlgpnaikdpifaaHeadP
import Derived.Test.YtmlgpnaikdpifaaSmall
import Derived.Deep.Light
import Derived.Deep.RegionWith
namespace Go.Proofs.Ytmlgpnaikdpifaa
open Go.RowKit

set_option maxHeartbeats 400000 in
theorem number_big (n : Int) (w : World) (h1 : -9223372036854775808 ≤ n) (h2 : n ≤ 9223372036854775807) :
    Calls Try.prog 19 #[.int .i64 n, .int .i64 1099511627776] w fun e w' => e = .returned (.int .i64 (n % 1099511627776)) ∧ w = w' := by
  have t1 := Int.tmod_lt_of_pos n (show (0 : Int) < 1099511627776 by omega)
  have t2 : -1099511627776 < n.tmod 1099511627776 := Int.lt_tmod_of_pos n (by omega)
  have t3 : n.tmod 1099511627776 < 0 → n.tmod 1099511627776 + 1099511627776 = n % 1099511627776 := fun h => by
    rw [Int.emod_eq_tmod, if_neg]
    · simp
    · intro h'
      rcases h' with h' | h'
      · have := Int.tmod_nonneg 1099511627776 h'; omega
      · rw [Int.tmod_eq_zero_of_dvd h'] at h; omega
  have t4 : ¬ n.tmod 1099511627776 < 0 → n.tmod 1099511627776 = n % 1099511627776 := fun h => by
    rw [Int.emod_eq_tmod, if_pos]
    · simp
    · by_cases h0 : 0 ≤ n
      · exact .inl h0
      · right
        have hneg := Int.tmod_nonneg (a := -n) 1099511627776 (by omega)
        rw [Int.neg_tmod] at hneg
        have h0' : n.tmod 1099511627776 = 0 := by omega
        exact Int.dvd_of_tmod_eq_zero h0'
  have H3 := Lib.hid t3; clear t3
  have H4 := Lib.hid t4; clear t4
  by_cases hneg : n.tmod 1099511627776 < 0
  · go_enter Try.func19, Try.ntmps19
    go_wp2
    go_ret
    exact ⟨ret_int (H3.out hneg), rfl⟩
  · go_enter Try.func19, Try.ntmps19
    go_wp2
    go_ret
    exact ⟨ret_int (H4.out hneg), rfl⟩

/-- The clauses made of k numbers. -/
structure Good (m : Int) (dn : List (List Int)) (cur : List Int) (k : Nat) : Prop where
  l1 : ∀ c ∈ dn, ∀ l ∈ c, l ≠ 0 ∧ isF l m = true
  l2 : ∀ l ∈ cur, l ≠ 0 ∧ isF l m = true
  sum : (dn.map List.length).sum + cur.length ≤ k
  len : dn.length + (if cur = [] then 0 else 1) ≤ k
theorem litOf_good (n m : Int) (h : 1 ≤ m) : litOf n m ≠ 0 ∧ isF (litOf n m) m = true := by
  have h1 := litOf_bd n m (by omega)
  unfold isF
  simp
  exact ⟨h1.1, h1.2.2, h1.2.1⟩
theorem Good.start (m : Int) : Good m [] [] 0 := ⟨fun _ h => (by cases h), fun _ h => (by cases h), by simp, by simp⟩
theorem Good.add {m : Int} {dn : List (List Int)} {cur : List Int} {k : Nat} (h : Good m dn cur k) (n : Int) (hm : 1 ≤ m) : Good m dn (cur ++ [litOf n m]) (k + 1) := by
  refine ⟨h.l1, fun l hl => ?_, by have := h.sum; simp; omega, by have := h.len; simp; split at this <;> omega⟩
  rw [List.mem_append] at hl
  rcases hl with hl | hl
  · exact h.l2 l hl
  · have e : l = litOf n m := by simpa using hl
    subst e
    exact litOf_good n m hm
theorem Good.push {m : Int} {dn : List (List Int)} {cur : List Int} {k : Nat} (h : Good m dn cur k) (hc : cur ≠ []) : Good m (dn ++ [cur]) [] k := by
  refine ⟨fun c hc => ?_, fun _ h => (by cases h), by have := h.sum; simp; omega, by have := h.len; rw [if_neg hc] at this; simp; omega⟩
  rw [List.mem_append] at hc
  rcases hc with hc | hc
  · exact h.l1 c hc
  · have e : c = cur := by simpa using hc
    subst e
    exact h.l2
theorem Good.last {m : Int} {dn : List (List Int)} {k : Nat} (h : Good m dn [] k) : (∀ c ∈ dn, ∀ l ∈ c, l ≠ 0 ∧ isF l m = true) ∧ (dn.map List.length).sum ≤ k ∧ dn.length ≤ k := ⟨h.l1, by have := h.sum; simp at this; omega, by have := h.len; simp at this; omega⟩
theorem Good.last' {m : Int} {dn : List (List Int)} {k n : Nat} (h : Good m dn [] k) (hk : k ≤ n) : (∀ c ∈ dn, ∀ l ∈ c, l ≠ 0 ∧ isF l m = true) ∧ (dn.map List.length).sum ≤ n ∧ dn.length ≤ n := ⟨h.last.1, by have := h.last.2.1; omega, by have := h.last.2.2; omega⟩
def MakePost (w : World) (n : Nat) (m : Int) (e : Ending) (w' : World) : Prop :=
  (∃ v xss, e = .returned v ∧ CRow w' w.heap.size v xss ∧ (∀ c ∈ xss, ∀ l ∈ c, l ≠ 0 ∧ isF l m = true) ∧ (xss.map List.length).sum ≤ n ∧ xss.length ≤ n) ∧ Below w.heap.size w w'

set_option maxRecDepth 4000 in
set_option maxHeartbeats 4000000 in
theorem makeCl_any (a : Option Addr) (c : Nat) (cs : List Int) (m : Int) (w : World) (hm1 : 1 ≤ m) (hm2 : m ≤ 100) (hv : RowAt w a c cs) (hcs : ∀ y ∈ cs, -9223372036854775808 ≤ y ∧ y ≤ 9223372036854775807) (hn : cs.length ≤ 200) :
    Calls Try.prog 11 #[.slice a cs.length c, .int .i64 m] w (MakePost w cs.length m) := by
  obtain ⟨hvc, hcm, hv⟩ := hv
  unfold maxLen at hcm
  have HX := Lib.hid hv; clear hv
  have HC := Lib.hid (fun k => show -9223372036854775808 ≤ cs.getD k 0 ∧ cs.getD k 0 ≤ 9223372036854775807 by
    by_cases hk : k < cs.length
    · have := hcs _ (List.getElem_mem hk); simpa [List.getD, hk] using this
    · simp [List.getD, show cs.length ≤ k by omega])
  clear hcs
  generalize cs.length = n at *
  go_enter Try.func11, Try.ntmps11
  go_wp2_with fail
  go_loopw [5, 6, 7] (fun o c i wr => ∃ (k : Nat) (vs : List Value) (dn : List (List Int)) (cur : List Int), k ≤ n ∧ i = .int .i64 k ∧ ClG wr w.heap.size o c vs dn cur ∧ Below w.heap.size w wr ∧ dn.length ≤ k ∧ cur.length ≤ k ∧ Hid (Good m dn cur k)) (fun _ _ i _ => n - (intOf i).toNat)
  case atStart => exact ⟨0, _, _, _, Nat.zero_le _, rfl, ClG.start w _, Below.refl _ _, Nat.le_refl _, Nat.le_refl _, Good.start m⟩
  case round =>
    obtain ⟨k, vs, dn, cur, hk, rfl, hI, hbr, hl1, hl2, HG0⟩ := hrel
    have hownc := hI.row
    obtain ⟨ac, capc, rfl, hcc1, hcc2⟩ := own_shape hI.row
    unfold maxLen at hcc2
    by_cases hlt : k < n
    · obtain ⟨b, off, ha, hb, hx⟩ := HX.out.resolve_left (by omega)
      subst ha
      have HG := Lib.hid (fun W (h : Below w.heap.size w W) => (h.cell (p := ⟨b, off + k, none⟩) hb).trans (hx k hlt))
      have hbd := HC.out k
      clear hx
      generalize cs.getD k 0 = z at *
      obtain ⟨hz1, hz2⟩ := hbd
      have g1 := HG.out _ hbr
      have N7 := Lib.hid (fun W => number_any z 7 W (by omega) (by omega) hz1 hz2)
      have NB := Lib.hid (fun W => number_big z W hz1 hz2)
      have hx1 := Int.emod_nonneg z (show (1099511627776 : Int) ≠ 0 by omega)
      have hx2 := Int.emod_lt_of_pos z (show (0 : Int) < 1099511627776 by omega)
      have hr1 := Int.emod_nonneg z (show (7 : Int) ≠ 0 by omega)
      generalize z % 7 = r at *
      generalize z % 1099511627776 = x at *
      have LT := Lib.hid (fun (y : Int) W (h1 : -9223372036854775808 ≤ y) (h2 : y ≤ 9223372036854775807) => lit_any y m W (by omega) (by omega) h1 h2)
      have HBR := Lib.hid hbr
      clear hbr
      have hd1 := Int.tdiv_nonneg hx1 (show (0 : Int) ≤ 7 by omega)
      have hd2 := Int.tdiv_le_self 7 hx1
      have hl3 : cur = [] ↔ cur.length = 0 := List.length_eq_zero_iff.symm
      by_cases hr0 : r = 0
      · subst hr0
        by_cases hc0 : cur.length = 0
        · generalize hcl : cur.length = cl at *
          subst hc0
          have HCL := Lib.hid hcl
          clear hl3 hcl
          go_wp2_with (first
            | (go_at_call_of 19 (Value.int IntKind.i64 (7 : Int)); refine (N7.out _).mono ?_; rintro e w' ⟨rfl, rfl⟩)
            | (go_at_call 19; refine (NB.out _).mono ?_; rintro e w' ⟨rfl, rfl⟩)
            | (go_at_call 16; refine (LT.out _ _ (by omega) (by omega)).mono ?_; rintro e w' ⟨rfl, rfl⟩)
            | (at_builtin; refine wpList_app1 rfl _ _ rfl wr w.heap.size _ _ _ _ hownc HBR.out.size (by omega) rfl rfl ?_; intro v' w2 hown2 hap))
          go_roundw
          case rel => exact ⟨k + 1, vs, dn, cur ++ [_], by omega, by go_num, hI.add hap (by rw [HCL.out]; exact hown2), HBR.out.trans hap.below, by omega, by rw [List.length_append, HCL.out, List.length_singleton]; omega, HG0.out.add _ hm1⟩
          case measure => go_light; simp [intOf]; omega
        · have hne : cur ≠ [] := fun e => hc0 (hl3.1 e)
          clear hl3
          generalize hcl : cur.length = cl at *
          have HCL := Lib.hid hcl
          clear hcl
          go_wp2_with (first
            | (go_at_call_of 19 (Value.int IntKind.i64 (7 : Int)); refine (N7.out _).mono ?_; rintro e w' ⟨rfl, rfl⟩)
            | (go_at_call 19; refine (NB.out _).mono ?_; rintro e w' ⟨rfl, rfl⟩)
            | (go_at_call 16; refine (LT.out _ _ (by omega) (by omega)).mono ?_; rintro e w' ⟨rfl, rfl⟩)
            | (at_builtin; refine wpList_appV 27 22 (.slice none 0 0) 24 Try.underlying27 infoInts rfl (by decide) rfl _ _ rfl wr w.heap.size _ _ _ _ rfl hI.out HBR.out.size (by omega) _ rfl rfl rfl ?_; intro o' w2 ho2 hap2; have hI2 := hI.push hap2 ho2; have HB2 := Lib.hid (HBR.out.trans hap2.below); have g2 := HG.out _ HB2.out)
            | (at_builtin; refine wpList_app1 rfl _ _ rfl w2 w.heap.size _ _ _ _ hI2.row HB2.out.size (by simp) rfl rfl ?_; intro v' w3 hown3 hap3))
          go_roundw
          case rel => exact ⟨k + 1, _, _, [] ++ [_], by omega, by go_num, hI2.add hap3 hown3, HB2.out.trans hap3.below, by simp; omega, by simp, (HG0.out.push hne).add _ hm1⟩
          case measure => go_light; simp [intOf]; omega
      · have hr0b : (r == 0) = false := by simp [hr0]
        by_cases hc5 : 5 ≤ cur.length
        · have hne : cur ≠ [] := fun e => by have := hl3.1 e; omega
          clear hl3 hr0
          generalize hcl : cur.length = cl at *
          have HCL := Lib.hid hcl
          clear hcl
          go_wp2_with (first
            | (go_at_call_of 19 (Value.int IntKind.i64 (7 : Int)); refine (N7.out _).mono ?_; rintro e w' ⟨rfl, rfl⟩)
            | (go_at_call 19; refine (NB.out _).mono ?_; rintro e w' ⟨rfl, rfl⟩)
            | (go_at_call 16; refine (LT.out _ _ (by omega) (by omega)).mono ?_; rintro e w' ⟨rfl, rfl⟩)
            | (at_builtin; refine wpList_appV 27 22 (.slice none 0 0) 24 Try.underlying27 infoInts rfl (by decide) rfl _ _ rfl wr w.heap.size _ _ _ _ rfl hI.out HBR.out.size (by omega) _ rfl rfl rfl ?_; intro o' w2 ho2 hap2; have hI2 := hI.push hap2 ho2; have HB2 := Lib.hid (HBR.out.trans hap2.below); have g2 := HG.out _ HB2.out)
            | (at_builtin; refine wpList_app1 rfl _ _ rfl w2 w.heap.size _ _ _ _ hI2.row HB2.out.size (by simp) rfl rfl ?_; intro v' w3 hown3 hap3))
          go_roundw
          case rel => exact ⟨k + 1, _, _, [] ++ [_], by omega, by go_num, hI2.add hap3 hown3, HB2.out.trans hap3.below, by simp; omega, by simp, (HG0.out.push hne).add _ hm1⟩
          case measure => go_light; simp [intOf]; omega
        · clear hl3 hr0
          generalize hcl : cur.length = cl at *
          have HCL := Lib.hid hcl
          clear hcl
          go_wp2_with (first
            | (go_at_call_of 19 (Value.int IntKind.i64 (7 : Int)); refine (N7.out _).mono ?_; rintro e w' ⟨rfl, rfl⟩)
            | (go_at_call 19; refine (NB.out _).mono ?_; rintro e w' ⟨rfl, rfl⟩)
            | (go_at_call 16; refine (LT.out _ _ (by omega) (by omega)).mono ?_; rintro e w' ⟨rfl, rfl⟩)
            | (at_builtin; refine wpList_app1 rfl _ _ rfl wr w.heap.size _ _ _ _ hownc HBR.out.size (by omega) rfl rfl ?_; intro v' w2 hown2 hap))
          go_roundw
          case rel => exact ⟨k + 1, vs, dn, cur ++ [_], by omega, by go_num, hI.add hap (by rw [HCL.out]; exact hown2), HBR.out.trans hap.below, by omega, by rw [List.length_append, HCL.out, List.length_singleton]; omega, HG0.out.add _ hm1⟩
          case measure => go_light; simp [intOf]; omega
    · by_cases hc0 : cur.length = 0
      · have hc0' : cur = [] := List.length_eq_zero_iff.1 hc0
        subst hc0'
        obtain ⟨ao, capo, rfl, hrows⟩ := hI.rows
        have HRW := Lib.hid (show CRow _ _ _ _ from ⟨_, _, _, hI⟩)
        have HBR := Lib.hid hbr
        clear hrows hI hownc hc0 hbr hl2 hcc1 hcc2
        have hkn : k = n := by omega
        subst hkn
        go_wp2_with fail
        go_ret
        exact ⟨⟨_, dn, rfl, HRW.out, HG0.out.last⟩, HBR.out⟩
      · have hne : cur ≠ [] := fun e => hc0 (by rw [e]; rfl)
        have HBR := Lib.hid hbr
        clear hbr
        generalize hcl : cur.length = cl at *
        have HCL := Lib.hid hcl
        clear hcl
        go_wp2_with (at_builtin; refine wpList_appV 27 22 (.slice none 0 0) 24 Try.underlying27 infoInts rfl (by decide) rfl _ _ rfl wr w.heap.size _ _ _ _ rfl hI.out HBR.out.size (by omega) _ rfl rfl rfl ?_; intro o' w2 ho2 hap2; have hI2 := hI.push hap2 ho2; have HB2 := Lib.hid (HBR.out.trans hap2.below); obtain ⟨ao, capo, rfl, hrows⟩ := hI2.rows)
        go_ret
        have hI3 := hI2
        rw [show (dn ++ [cur]).length = dn.length + 1 by simp] at hI3
        exact ⟨⟨_, dn ++ [cur], rfl, ⟨_, _, _, hI3⟩, (HG0.out.push hne).last' hk⟩, HB2.out⟩

end Go.Proofs.Ytmlgpnaikdpifaa
