/- The contract of skolemmake.Clauses as a function of the numbers. Conditions: the slice reads as 64-bit ints and is short; 1 to 100 variables. -/
import Derived.Test.YtbighmmjmklioaaDoorMakeC
namespace Go.Proofs.YtbighmmjmklioaaDoor
open Go.RowKit

/-- One number more: the clauses done, the clause begun. -/
def stepC (m : Int) (s : List (List Int) × List Int) (z : Int) : List (List Int) × List Int :=
  if (z % 7 = 0 ∧ s.2.length ≠ 0) ∨ 5 ≤ s.2.length then (s.1 ++ [s.2], [litOf (z % 1099511627776 / 7) m]) else (s.1, s.2 ++ [litOf (z % 1099511627776 / 7) m])
def FC (m : Int) (cs : List Int) (k : Nat) (dn : List (List Int)) (cur : List Int) : Prop := (cs.take k).foldl (stepC m) ([], []) = (dn, cur)
/-- The clauses made of these numbers. -/
def clsOf (m : Int) (cs : List Int) : List (List Int) :=
  if (cs.foldl (stepC m) ([], [])).2.length = 0 then (cs.foldl (stepC m) ([], [])).1 else (cs.foldl (stepC m) ([], [])).1 ++ [(cs.foldl (stepC m) ([], [])).2]
theorem FC.start (m : Int) (cs : List Int) : FC m cs 0 [] [] := rfl
theorem FC.step {m : Int} {cs : List Int} {k : Nat} {dn : List (List Int)} {cur : List Int} (h : FC m cs k dn cur) (hk : k < cs.length) : (cs.take (k + 1)).foldl (stepC m) ([], []) = stepC m (dn, cur) (cs.getD k 0) := by
  unfold FC at h
  rw [List.take_succ_eq_append_getElem hk, List.foldl_append, h]
  simp [List.getD, hk]
theorem FC.stay {m : Int} {cs : List Int} {k : Nat} {dn : List (List Int)} {cur : List Int} (h : FC m cs k dn cur) (hk : k < cs.length) (y : Int) (hy : y = cs.getD k 0 % 1099511627776 / 7) (h1 : cs.getD k 0 % 7 = 0 → cur.length = 0) (h2 : ¬ 5 ≤ cur.length) : FC m cs (k + 1) dn (cur ++ [litOf y m]) := by
  unfold FC
  rw [h.step hk]
  unfold stepC
  rw [if_neg, hy]
  rintro (⟨g1, g2⟩ | g)
  · exact g2 (h1 g1)
  · exact h2 g
theorem FC.push {m : Int} {cs : List Int} {k : Nat} {dn : List (List Int)} {cur : List Int} (h : FC m cs k dn cur) (hk : k < cs.length) (y : Int) (hy : y = cs.getD k 0 % 1099511627776 / 7) (h1 : (cs.getD k 0 % 7 = 0 ∧ cur.length ≠ 0) ∨ 5 ≤ cur.length) : FC m cs (k + 1) (dn ++ [cur]) ([] ++ [litOf y m]) := by
  unfold FC
  rw [h.step hk]
  unfold stepC
  rw [if_pos h1, hy]
  rfl
theorem FC.none {m : Int} {cs : List Int} {k : Nat} {dn : List (List Int)} (h : FC m cs k dn []) (hk : cs.length = k) : clsOf m cs = dn := by
  unfold FC at h
  rw [← hk, List.take_length] at h
  unfold clsOf
  rw [h]
  rfl
theorem FC.some {m : Int} {cs : List Int} {k : Nat} {dn : List (List Int)} {cur : List Int} (h : FC m cs k dn cur) (hk : cs.length = k) (hc : cur ≠ []) : clsOf m cs = dn ++ [cur] := by
  unfold FC at h
  rw [← hk, List.take_length] at h
  unfold clsOf
  rw [h, if_neg]
  exact fun e => hc (List.length_eq_zero_iff.1 e)
def MakePostF (w : World) (cs : List Int) (m : Int) (e : Ending) (w' : World) : Prop :=
  (∃ v, e = .returned v ∧ CRow w' w.heap.size v (clsOf m cs) ∧ (∀ c ∈ clsOf m cs, ∀ l ∈ c, l ≠ 0 ∧ isF l m = true) ∧ ((clsOf m cs).map List.length).sum ≤ cs.length ∧ (clsOf m cs).length ≤ cs.length) ∧ Below w.heap.size w w'

set_option maxRecDepth 4000 in
set_option maxHeartbeats 4000000 in
theorem makeClF_any (a : Option Addr) (c : Nat) (cs : List Int) (m : Int) (w : World) (hm1 : 1 ≤ m) (hm2 : m ≤ 100) (hv : RowAt w a c cs) (hcs : ∀ y ∈ cs, -9223372036854775808 ≤ y ∧ y ≤ 9223372036854775807) (hn : cs.length ≤ 200) :
    Calls Tryd.prog 23 #[.slice a cs.length c, .int .i64 m] w (MakePostF w cs m) := by
  obtain ⟨hvc, hcm, hv⟩ := hv
  unfold maxLen at hcm
  have HX := Lib.hid hv; clear hv
  have HC := Lib.hid (fun k => show -9223372036854775808 ≤ cs.getD k 0 ∧ cs.getD k 0 ≤ 9223372036854775807 by
    by_cases hk : k < cs.length
    · have := hcs _ (List.getElem_mem hk); simpa [List.getD, hk] using this
    · simp [List.getD, show cs.length ≤ k by omega])
  clear hcs
  unfold MakePostF
  generalize hnn : cs.length = n at *
  have HN := Lib.hid hnn
  clear hnn
  go_enter Tryd.func23, Tryd.ntmps23
  go_wp2_with fail
  go_loopw [5, 6, 7] (fun o c i wr => ∃ (k : Nat) (vs : List Value) (dn : List (List Int)) (cur : List Int), k ≤ n ∧ i = .int .i64 k ∧ ClG wr w.heap.size o c vs dn cur ∧ Below w.heap.size w wr ∧ dn.length ≤ k ∧ cur.length ≤ k ∧ Hid (Good m dn cur k) ∧ Hid (FC m cs k dn cur)) (fun _ _ i _ => n - (intOf i).toNat)
  case atStart => exact ⟨0, _, _, _, Nat.zero_le _, rfl, ClG.start w _, Below.refl _ _, Nat.le_refl _, Nat.le_refl _, Good.start m, FC.start m cs⟩
  case round =>
    obtain ⟨k, vs, dn, cur, hk, rfl, hI, hbr, hl1, hl2, HG0, HF0⟩ := hrel
    have hownc := hI.row
    obtain ⟨ac, capc, rfl, hcc1, hcc2⟩ := own_shape hI.row
    unfold maxLen at hcc2
    by_cases hlt : k < n
    · obtain ⟨b, off, ha, hb, hx⟩ := HX.out.resolve_left (by omega)
      subst ha
      have HG := Lib.hid (fun W (h : Below w.heap.size w W) => (h.cell (p := ⟨b, off + k, none⟩) hb).trans (hx k hlt))
      have hbd := HC.out k
      have HS1 := Lib.hid (fun (y : Int) (hy : y = cs.getD k 0 % 1099511627776 / 7) (h1 : cs.getD k 0 % 7 = 0 → cur.length = 0) (h2 : ¬ 5 ≤ cur.length) => FC.stay HF0.out (by rw [HN.out]; exact hlt) y hy h1 h2)
      have HS2 := Lib.hid (fun (y : Int) (hy : y = cs.getD k 0 % 1099511627776 / 7) (h1 : (cs.getD k 0 % 7 = 0 ∧ cur.length ≠ 0) ∨ 5 ≤ cur.length) => FC.push HF0.out (by rw [HN.out]; exact hlt) y hy h1)
      clear HF0
      clear hx
      generalize cs.getD k 0 = z at *
      obtain ⟨hz1, hz2⟩ := hbd
      have g1 := HG.out _ hbr
      have N7 := Lib.hid (fun W => number_any z 7 W (by omega) (by omega) hz1 hz2)
      have NB := Lib.hid (fun W => number_big z W hz1 hz2)
      have hx1 := Int.emod_nonneg z (show (1099511627776 : Int) ≠ 0 by omega)
      have hx2 := Int.emod_lt_of_pos z (show (0 : Int) < 1099511627776 by omega)
      have hr1 := Int.emod_nonneg z (show (7 : Int) ≠ 0 by omega)
      generalize z % 7 = r at *
      generalize z % 1099511627776 = x at *
      have LT := Lib.hid (fun (y : Int) W (h1 : -9223372036854775808 ≤ y) (h2 : y ≤ 9223372036854775807) => lit_any y m W (by omega) (by omega) h1 h2)
      have HBR := Lib.hid hbr
      clear hbr
      have hd1 := Int.tdiv_nonneg hx1 (show (0 : Int) ≤ 7 by omega)
      have hd2 := Int.tdiv_le_self 7 hx1
      have hl3 : cur = [] ↔ cur.length = 0 := List.length_eq_zero_iff.symm
      have HX1 := Lib.hid hx1
      by_cases hr0 : r = 0
      · subst hr0
        by_cases hc0 : cur.length = 0
        · have HQ1 : Hid ((0 : Int) = 0 → cur.length = 0) := fun _ => hc0
          have HQ2 : Hid (¬ 5 ≤ cur.length) := fun h => by omega
          generalize hcl : cur.length = cl at *
          subst hc0
          have HCL := Lib.hid hcl
          clear hl3 hcl
          go_wp2_with (first
            | (go_at_call_of 12 (Value.int IntKind.i64 (7 : Int)); refine (N7.out _).mono ?_; rintro e w' ⟨rfl, rfl⟩)
            | (go_at_call 12; refine (NB.out _).mono ?_; rintro e w' ⟨rfl, rfl⟩)
            | (go_at_call 50; refine (LT.out _ _ (by omega) (by omega)).mono ?_; rintro e w' ⟨rfl, rfl⟩)
            | (at_builtin; refine wpList_app1 rfl _ _ rfl wr w.heap.size _ _ _ _ hownc HBR.out.size (by omega) rfl rfl ?_; intro v' w2 hown2 hap))
          go_roundw
          case rel => exact ⟨k + 1, vs, dn, cur ++ [_], by omega, by go_num, hI.add hap (by rw [HCL.out]; exact hown2), HBR.out.trans hap.below, by omega, by rw [List.length_append, HCL.out, List.length_singleton]; omega, HG0.out.add _ hm1, HS1.out _ (by first | rfl | exact Int.tdiv_eq_ediv_of_nonneg HX1.out) HQ1.out HQ2.out⟩
          case measure => go_light; simp [intOf]; omega
        · have hne : cur ≠ [] := fun e => hc0 (hl3.1 e)
          have HQ3 : Hid (((0 : Int) = 0 ∧ cur.length ≠ 0) ∨ 5 ≤ cur.length) := .inl ⟨rfl, hc0⟩
          clear hl3
          generalize hcl : cur.length = cl at *
          have HCL := Lib.hid hcl
          clear hcl
          go_wp2_with (first
            | (go_at_call_of 12 (Value.int IntKind.i64 (7 : Int)); refine (N7.out _).mono ?_; rintro e w' ⟨rfl, rfl⟩)
            | (go_at_call 12; refine (NB.out _).mono ?_; rintro e w' ⟨rfl, rfl⟩)
            | (go_at_call 50; refine (LT.out _ _ (by omega) (by omega)).mono ?_; rintro e w' ⟨rfl, rfl⟩)
            | (at_builtin; refine wpList_appV 36 22 (.slice none 0 0) 24 Tryd.underlying36 infoInts rfl (by decide) rfl _ _ rfl wr w.heap.size _ _ _ _ rfl hI.out HBR.out.size (by omega) _ rfl rfl rfl ?_; intro o' w2 ho2 hap2; have hI2 := hI.push hap2 ho2; have HB2 := Lib.hid (HBR.out.trans hap2.below); have g2 := HG.out _ HB2.out)
            | (at_builtin; refine wpList_app1 rfl _ _ rfl w2 w.heap.size _ _ _ _ hI2.row HB2.out.size (by simp) rfl rfl ?_; intro v' w3 hown3 hap3))
          go_roundw
          case rel => exact ⟨k + 1, _, _, [] ++ [_], by omega, by go_num, hI2.add hap3 hown3, HB2.out.trans hap3.below, by simp; omega, by simp, (HG0.out.push hne).add _ hm1, HS2.out _ (by first | rfl | exact Int.tdiv_eq_ediv_of_nonneg HX1.out) HQ3.out⟩
          case measure => go_light; simp [intOf]; omega
      · have hr0b : (r == 0) = false := by simp [hr0]
        by_cases hc5 : 5 ≤ cur.length
        · have hne : cur ≠ [] := fun e => by have := hl3.1 e; omega
          have HQ3 : Hid ((r = 0 ∧ cur.length ≠ 0) ∨ 5 ≤ cur.length) := .inr hc5
          clear hl3 hr0
          generalize hcl : cur.length = cl at *
          have HCL := Lib.hid hcl
          clear hcl
          go_wp2_with (first
            | (go_at_call_of 12 (Value.int IntKind.i64 (7 : Int)); refine (N7.out _).mono ?_; rintro e w' ⟨rfl, rfl⟩)
            | (go_at_call 12; refine (NB.out _).mono ?_; rintro e w' ⟨rfl, rfl⟩)
            | (go_at_call 50; refine (LT.out _ _ (by omega) (by omega)).mono ?_; rintro e w' ⟨rfl, rfl⟩)
            | (at_builtin; refine wpList_appV 36 22 (.slice none 0 0) 24 Tryd.underlying36 infoInts rfl (by decide) rfl _ _ rfl wr w.heap.size _ _ _ _ rfl hI.out HBR.out.size (by omega) _ rfl rfl rfl ?_; intro o' w2 ho2 hap2; have hI2 := hI.push hap2 ho2; have HB2 := Lib.hid (HBR.out.trans hap2.below); have g2 := HG.out _ HB2.out)
            | (at_builtin; refine wpList_app1 rfl _ _ rfl w2 w.heap.size _ _ _ _ hI2.row HB2.out.size (by simp) rfl rfl ?_; intro v' w3 hown3 hap3))
          go_roundw
          case rel => exact ⟨k + 1, _, _, [] ++ [_], by omega, by go_num, hI2.add hap3 hown3, HB2.out.trans hap3.below, by simp; omega, by simp, (HG0.out.push hne).add _ hm1, HS2.out _ (by first | rfl | exact Int.tdiv_eq_ediv_of_nonneg HX1.out) HQ3.out⟩
          case measure => go_light; simp [intOf]; omega
        · have HQ1 : Hid (r = 0 → cur.length = 0) := fun h => absurd h hr0
          have HQ2 : Hid (¬ 5 ≤ cur.length) := hc5
          clear hl3 hr0
          generalize hcl : cur.length = cl at *
          have HCL := Lib.hid hcl
          clear hcl
          go_wp2_with (first
            | (go_at_call_of 12 (Value.int IntKind.i64 (7 : Int)); refine (N7.out _).mono ?_; rintro e w' ⟨rfl, rfl⟩)
            | (go_at_call 12; refine (NB.out _).mono ?_; rintro e w' ⟨rfl, rfl⟩)
            | (go_at_call 50; refine (LT.out _ _ (by omega) (by omega)).mono ?_; rintro e w' ⟨rfl, rfl⟩)
            | (at_builtin; refine wpList_app1 rfl _ _ rfl wr w.heap.size _ _ _ _ hownc HBR.out.size (by omega) rfl rfl ?_; intro v' w2 hown2 hap))
          go_roundw
          case rel => exact ⟨k + 1, vs, dn, cur ++ [_], by omega, by go_num, hI.add hap (by rw [HCL.out]; exact hown2), HBR.out.trans hap.below, by omega, by rw [List.length_append, HCL.out, List.length_singleton]; omega, HG0.out.add _ hm1, HS1.out _ (by first | rfl | exact Int.tdiv_eq_ediv_of_nonneg HX1.out) HQ1.out HQ2.out⟩
          case measure => go_light; simp [intOf]; omega
    · by_cases hc0 : cur.length = 0
      · have hc0' : cur = [] := List.length_eq_zero_iff.1 hc0
        subst hc0'
        obtain ⟨ao, capo, rfl, hrows⟩ := hI.rows
        have HRW := Lib.hid (show CRow _ _ _ _ from ⟨_, _, _, hI⟩)
        have HBR := Lib.hid hbr
        clear hrows hI hownc hc0 hbr hl2 hcc1 hcc2
        have hkn : k = n := by omega
        subst hkn
        go_wp2_with fail
        go_ret
        rw [FC.none HF0.out HN.out]
        exact ⟨⟨_, rfl, HRW.out, HG0.out.last⟩, HBR.out⟩
      · have hne : cur ≠ [] := fun e => hc0 (by rw [e]; rfl)
        have hkn : k = n := by omega
        have HBR := Lib.hid hbr
        clear hbr
        generalize hcl : cur.length = cl at *
        have HCL := Lib.hid hcl
        clear hcl
        go_wp2_with (at_builtin; refine wpList_appV 36 22 (.slice none 0 0) 24 Tryd.underlying36 infoInts rfl (by decide) rfl _ _ rfl wr w.heap.size _ _ _ _ rfl hI.out HBR.out.size (by omega) _ rfl rfl rfl ?_; intro o' w2 ho2 hap2; have hI2 := hI.push hap2 ho2; have HB2 := Lib.hid (HBR.out.trans hap2.below); obtain ⟨ao, capo, rfl, hrows⟩ := hI2.rows)
        go_ret
        have hI3 := hI2
        rw [show (dn ++ [cur]).length = dn.length + 1 by simp] at hI3
        rw [FC.some HF0.out (HN.out.trans hkn.symm) hne]
        exact ⟨⟨_, rfl, ⟨_, _, _, hI3⟩, (HG0.out.push hne).last' hk⟩, HB2.out⟩

end Go.Proofs.YtbighmmjmklioaaDoor
