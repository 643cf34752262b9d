/- Contracts of prop's best and rewatch. Conditions: the prop lies in memory as 'MA' says; its numbers are small. · Contracts of prop's rewatch and settle. Conditions: the prop lies in memory as 'MA' says; its numbers are small. · The contract of prop's settle. Conditions: the prop lies in memory as 'MA' says; its numbers are small. -/
import Derived.Test.YtjlmooimdogmjaaLg10
import Derived.Deep.RegionWith
import Derived.Deep.Light
set_option linter.unusedVariables false
set_option linter.unusedSimpArgs false
namespace Go.Proofs.Ytjlmooimdogmjaa
open Go.RowKit

/-! ### Lists whose members change places -/
theorem swapL_len (c : List Int) (a b : Nat) : (swapL c a b).length = c.length := by unfold swapL; simp
theorem swapL_perm (c : List Int) {a b : Nat} (ha : a < c.length) (hb : b < c.length) : (swapL c a b).Perm c := by
  unfold swapL
  rw [show c.getD b 0 = c[b] by simp [List.getD, hb], show c.getD a 0 = c[a] by simp [List.getD, ha]]
  exact List.set_set_perm ha hb
theorem swapL_at (c : List Int) {a b : Nat} (ha : a < c.length) (hb : b < c.length) (j : Nat) : (swapL c a b).getD j 0 = if j = b then c.getD a 0 else if j = a then c.getD b 0 else c.getD j 0 := by
  unfold swapL
  rw [getD_setG, getD_setG]
  simp only [List.length_set]
  by_cases h1 : j = b
  · subst h1; simp [hb]
  · rw [if_neg (fun e => h1 e.1.symm), if_neg h1]
    by_cases h2 : j = a
    · subst h2; simp [ha]
    · rw [if_neg (fun e => h2 e.1.symm), if_neg h2]
theorem swapL_take (c : List Int) {a b p : Nat} (ha : p ≤ a) (hb : p ≤ b) : (swapL c a b).take p = c.take p := by
  unfold swapL
  rw [List.take_set_of_le hb, List.take_set_of_le ha]
/-- How far best has come: k. -/
structure BestI (F : Int → Nat) (c : List Int) (p : Nat) (c' : List Int) (k : Nat) : Prop where
  perm : c'.Perm c
  take : c'.take p = c.take p
  max : ∀ j, p < j → j < k → j < c'.length → F (c'.getD j 0) ≤ F (c'.getD p 0)
theorem BestI.start (F : Int → Nat) (c : List Int) (p : Nat) : BestI F c p c (p + 1) := ⟨.refl _, rfl, fun j h1 h2 => by omega⟩
theorem BestI.stay {F : Int → Nat} {c c' : List Int} {p k : Nat} (h : BestI F c p c' k) (hle : F (c'.getD k 0) ≤ F (c'.getD p 0)) : BestI F c p c' (k + 1) :=
  ⟨h.perm, h.take, fun j h1 h2 h3 => by
    rcases Nat.lt_or_ge j k with h4 | h4
    · exact h.max j h1 h4 h3
    · rw [show j = k by omega]; exact hle⟩
theorem BestI.swap {F : Int → Nat} {c c' : List Int} {p k : Nat} (h : BestI F c p c' k) (hp : p < k) (hk : k < c'.length) (hlt : F (c'.getD p 0) < F (c'.getD k 0)) : BestI F c p (swapL c' p k) (k + 1) :=
  ⟨(swapL_perm c' (by omega) hk).trans h.perm, (swapL_take c' (Nat.le_refl _) (by omega)).trans h.take, fun j h1 h2 h3 => by
    rw [swapL_len] at h3
    rw [swapL_at c' (by omega) hk, swapL_at c' (by omega) hk, if_neg (show ¬ p = k by omega), if_pos rfl]
    by_cases e : j = k
    · rw [if_pos e]; omega
    · rw [if_neg e, if_neg (show ¬ j = p by omega)]
      have := h.max j h1 (by omega) h3
      omega⟩

section
variable {w : World} {ρ : Nat → Option Rl} {L : Lay} {m : Mc}
theorem putCl_cl (m : Mc) (i : Nat) (c : List Int) : (putCl m i c).cl i = some c := upd_same _ _ _
theorem putCl_self {i : Nat} {c : List Int} (h : m.cl i = some c) : putCl m i c = m := by
  unfold putCl
  rw [← h, upd_self]

set_option maxRecDepth 8000 in
set_option maxHeartbeats 8000000 in
theorem mbest_any (h : MA w ρ L m) (i : Nat) (c : List Int) (p : Nat) (hc : m.cl i = some c) (hl : ∀ x ∈ c, plc x ≤ m.n) (hn : m.n ≤ 4000) (hs : m.st.length ≤ 4000) (hp : p ≤ 1) (hcl : c.length ≤ 1000000) :
    Calls Try.prog 74 #[ptrP L, ptrC L i, .int .i64 (p : Int)] w fun e w' => e = .returned (.tuple #[]) ∧ Chr ρ w ρ w' ∧ ∃ c', BestI (ffM m) c p c' c.length ∧ MA w' ρ L (putCl m i c') := by
  have HA : Hid (MA w ρ L (putCl m i c)) := by unfold Hid; rw [putCl_self hc]; exact h
  have HL := Lib.hid hl
  clear h hc hl
  unfold ptrP
  have HPC : Hid (ptrC L i = .pointer (some ⟨L.cb i, 0, none⟩)) := rfl
  rw [HPC.out]
  generalize hN : c.length = N at *
  have HN := Lib.hid hN
  clear hN
  have HB0 := Lib.hid (BestI.start (ffM m) c p)
  have HCH := Lib.hid (Chr.refl ρ w)
  go_enter Try.func74, Try.ntmps74
  go_wp2_with fail
  go_loopw [6] (fun u6 wr => ∃ (k : Nat) (c' : List Int), p + 1 ≤ k ∧ k ≤ N + 2 ∧ u6 = .int .i64 (k : Int) ∧ Chr ρ w ρ wr ∧ BestI (ffM m) c p c' k ∧ MA wr ρ L (putCl m i c')) (fun u6 _ => N + 2 - (intOf u6).toNat)
  case atStart => exact ⟨p + 1, c, Nat.le_refl _, by omega, by go_num, HCH.out, HB0.out, HA.out⟩
  case round =>
    obtain ⟨k, c', hk1, hk2, rfl, hC, hB, hM⟩ := hrel
    have hlen : c'.length = N := by rw [hB.perm.length_eq]; exact HN.out
    have hcl' := putCl_cl m i c'
    have q1 := (hM.cells hcl').2
    have ho := hM.lit hcl'
    obtain ⟨sa, sc, hsh, _⟩ := own_shape ho
    rw [hsh, hlen] at q1
    have HB := Lib.hid hB
    have HC := Lib.hid hC
    have HM := Lib.hid (fun t => hM.drewN t)
    by_cases hk : k < N
    · obtain ⟨g, kc, e, _, hcell, _, _, _⟩ := hM.lits hcl' (by omega)
      rw [hsh] at e
      injection e with e1 _ e3
      subst e1; subst e3
      have x1 := hcell k (c'.getD k 0) (by simp [List.getD, show k < c'.length by omega])
      have x2 := hcell p (c'.getD p 0) (by simp [List.getD, show p < c'.length by omega])
      have hm1 : ∀ j, j < c'.length → plc (c'.getD j 0) ≤ m.n := fun j hj => HL.out _ (hB.perm.mem_iff.1 (by rw [show c'.getD j 0 = c'[j] by simp [List.getD, hj]]; exact List.getElem_mem hj))
      have HF1 := Lib.hid (fun t => mff_any (hM.drewN t) (c'.getD k 0) (hm1 k (by omega)) hn hs)
      have HF2 := Lib.hid (fun t => mff_any (hM.drewN t) (c'.getD p 0) (hm1 p (by omega)) hn hs)
      have HST : Hid (ffM (putCl m i c') (c'.getD k 0) ≤ ffM (putCl m i c') (c'.getD p 0) → BestI (ffM m) c p c' (k + 1)) := fun hle => hB.stay hle
      have HSW : Hid (¬ ffM (putCl m i c') (c'.getD k 0) ≤ ffM (putCl m i c') (c'.getD p 0) → BestI (ffM m) c p (swapL c' p k) (k + 1)) := fun hle => hB.swap (by omega) (by omega) (by unfold putCl at hle; unfold ffM at *; simp only at hle; omega)
      have HWP := Lib.hid (fun t => mswap_any (hM.drewN t) i c' p k hcl' (by omega) (by omega) (by omega))
      rw [HPC.out] at HWP
      have HLN := Lib.hid hlen
      clear hcell hm1 hM hB hC hcl' ho hsh hlen HB0 HA HCH
      generalize hy1 : ffM (putCl m i c') (c'.getD k 0) = y1 at *
      generalize hy2 : ffM (putCl m i c') (c'.getD p 0) = y2 at *
      clear hy1 hy2
      generalize c'.getD k 0 = l1 at *
      generalize c'.getD p 0 = l2 at *
      have hNp : p < N := by omega
      go_wp2_with fail
      go_quiet (first | (go_at_call_of 84 (Value.int IntKind.i64 l1); refine Calls.quiet_of (HF1.out _)) | (refine Calls.quiet_of (HF2.out _)))
      by_cases hle : y1 ≤ y2
      · have hd : ¬ y2 < y1 := by omega
        have HS := Lib.hid (HST.out hle)
        clear hle
        go_wp2_with fail
        go_roundw
        case rel => exact ⟨k + 1, c', by omega, by omega, by go_num, HC.out.drewN _, HS.out, HM.out _⟩
        case measure => go_light; simp [intOf]; omega
      · have hd : y2 < y1 := by omega
        have HS := Lib.hid (HSW.out hle)
        clear hle
        go_wp2_with fail
        refine (HWP.out _).mono ?_
        rintro e w2 ⟨rfl, hC2, hM2⟩
        rw [putCl_twice] at hM2
        have HM2 := Lib.hid hM2
        have HC2 := Lib.hid ((HC.out.drewN _).trans hC2)
        clear hM2 hC2
        go_wp2_with fail
        go_roundw
        case rel => exact ⟨k + 1, swapL c' p k, by omega, by omega, by go_num, HC2.out, HS.out, HM2.out⟩
        case measure => go_light; simp [intOf]; omega
    · have hd : decide ((k : Int) < (N : Int)) = false := decide_eq_false (by omega)
      have hd2 : decide (k < N) = false := decide_eq_false hk
      have HE : Hid (BestI (ffM m) c p c' N) := ⟨hB.perm, hB.take, fun j h1 h2 h3 => hB.max j h1 (by omega) h3⟩
      clear hM hB hC hcl' ho hsh hlen hk
      go_wp2_with fail
      (try simp only [Exit.inBlock, Exit.then])
      refine bodyPost_end (results_none rfl _ _ _) rfl ?_
      exact ⟨rfl, HC.out, c', HE.out, HM.out 0⟩

end
end Go.Proofs.Ytjlmooimdogmjaa

namespace Go.Proofs.Ytjlmooimdogmjaa
open Go.RowKit

section
variable {w : World} {ρ : Nat → Option Rl} {L : Lay} {m : Mc}
/-- What rewatch answers, and leaves. -/
def RewR (w : World) (ρ : Nat → Option Rl) (L : Lay) (m : Mc) (i : Nat) (c : List Int) (b : Bool) (w' : World) : Prop :=
  (b = false ∧ w' = w ∧ ∀ j, 2 ≤ j → j < c.length → valL m.vs (c.getD j 0) = 2) ∨
  (b = true ∧ ∃ j, 2 ≤ j ∧ j < c.length ∧ valL m.vs (c.getD j 0) ≠ 2 ∧ ∃ ρ', Chr ρ w ρ' w' ∧ ∃ v, MA w' ρ' { L with wv := upd L.wv (wx (c.getD j 0)) v } (wat (putCl m i (swapL c 1 j)) i (c.getD j 0)))

set_option maxRecDepth 8000 in
set_option maxHeartbeats 8000000 in
theorem mrew_any (h : MA w ρ L m) (i : Nat) (c : List Int) (hc : m.cl i = some c) (hl : ∀ x ∈ c, plc x ≤ m.n) (hn : m.n ≤ 4000) (hcl : c.length ≤ 1000000) (hc2 : 2 ≤ c.length) (hw : ∀ j, (m.wt j).length ≤ 1000000000) :
    Calls Try.prog 72 #[ptrP L, ptrC L i] w fun e w' => ∃ b, e = .returned (.bool b) ∧ RewR w ρ L m i c b w' := by
  have HA := Lib.hid h
  have HL := Lib.hid hl
  have HCI := Lib.hid hc
  have HW := Lib.hid hw
  obtain ⟨g, kc, e, _, hcell, _, _, _⟩ := h.lits hc (by omega)
  have q1 := (h.cells hc).2
  rw [e] at q1
  have HCELL := Lib.hid hcell
  clear h hc hl e hcell hw
  unfold ptrP
  have HPC : Hid (ptrC L i = .pointer (some ⟨L.cb i, 0, none⟩)) := rfl
  rw [HPC.out]
  generalize hN : c.length = N at *
  have HN := Lib.hid hN
  clear hN
  have HR : Hid (∀ b w', RewR w ρ L m i c b w' → RewR w ρ L m i c b w') := fun _ _ h => h
  go_enter Try.func72, Try.ntmps72
  go_wp2_with fail
  go_loopw [5] (fun u5 wr => ∃ k : Nat, 2 ≤ k ∧ k ≤ N ∧ u5 = .int .i64 (k : Int) ∧ wr = w ∧ Hid (∀ j, 2 ≤ j → j < k → valL m.vs (c.getD j 0) = 2)) (fun u5 _ => N - (intOf u5).toNat)
  case atStart => exact ⟨2, Nat.le_refl _, hc2, rfl, rfl, fun j h1 h2 => by omega⟩
  case round =>
    obtain ⟨k, hk1, hk2, rfl, rfl, HI⟩ := hrel
    by_cases hk : k < N
    · have x1 := HCELL.out k (c.getD k 0) (by simp [List.getD, show k < c.length by rw [HN.out]; exact hk])
      have hpl := HL.out (c.getD k 0) (by rw [show c.getD k 0 = c[k]'(by rw [HN.out]; exact hk) by simp [List.getD, show k < c.length by rw [HN.out]; exact hk]]; exact List.getElem_mem _)
      have e := plc_abs (c.getD k 0)
      have hb : -4000 ≤ c.getD k 0 ∧ c.getD k 0 ≤ 4000 := by unfold absI at e; split at e <;> omega
      have HV := Lib.hid (mval_any HA.out (c.getD k 0) (by omega) (by omega))
      have HPL := Lib.hid hpl
      clear e hb hpl
      by_cases hv : valL m.vs (c.getD k 0) = 2
      · have HV2 := Lib.hid hv
        rw [hv] at HV
        clear hv
        generalize hy : c.getD k 0 = y at *
        have HY := Lib.hid hy
        clear hy
        go_wp2_with fail
        refine HV.out.mono ?_
        rintro e w2 ⟨rfl, rfl⟩
        go_wp2_with fail
        go_roundw
        case rel =>
          refine ⟨k + 1, by omega, by omega, by go_num, by first | rfl | trivial, fun j h1 h2 => ?_⟩
          rcases Nat.lt_or_ge j k with h3 | h3
          · exact HI.out j h1 h3
          · rw [show j = k by omega, HY.out]; exact HV2.out
        case measure => go_light; simp [intOf]; omega
      · have HV2 := Lib.hid hv
        have hvb : (valL m.vs (c.getD k 0) == 2) = false := beq_eq_false_iff_ne.2 hv
        have hvn : (valL m.vs (c.getD k 0) != 2) = true := bne_iff_ne.2 hv
        have HWP := Lib.hid (mswap_any HA.out i c 1 k HCI.out (by rw [HN.out]; omega) (by rw [HN.out]; omega) (by omega))
        rw [HPC.out] at HWP
        have HWA : Hid (∀ W, Chr ρ wr ρ W → MA W ρ L (putCl m i (swapL c 1 k)) → Calls Try.prog 75 #[.pointer (some ⟨L.p, 0, none⟩), .pointer (some ⟨L.cb i, 0, none⟩), .int .i64 1] W fun e w' => e = .returned (.tuple #[]) ∧ RewR wr ρ L m i c true w') := fun W hC hM => by
          refine (mwatch_any hM i (swapL c 1 k) 1 (c.getD k 0) (putCl_cl _ _ _) ?_ HPL.out hn (HW.out _)).mono ?_
          · have := swapL_at c (a := 1) (b := k) (by rw [HN.out]; omega) (by rw [HN.out]; omega) 1
            rw [if_neg (by omega), if_pos rfl] at this
            rw [← this]
            simp [List.getD, swapL_len, show 1 < c.length by rw [HN.out]; omega]
          · rintro e w' ⟨he, ρ', hC', v, hM'⟩
            exact ⟨he, .inr ⟨rfl, k, hk1, by rw [HN.out]; exact hk, HV2.out, ρ', hC.trans hC', v, hM'⟩⟩
        clear hv HV2
        generalize valL m.vs (c.getD k 0) = x at *
        generalize c.getD k 0 = y at *
        go_wp2_with fail
        refine HV.out.mono ?_
        rintro e w2 ⟨rfl, rfl⟩
        go_wp2_with fail
        refine HWP.out.mono ?_
        rintro e w2 ⟨rfl, hC2, hM2⟩
        have HWB := Lib.hid (HWA.out _ hC2 hM2)
        clear hC2 hM2
        go_wp2_with fail
        refine HWB.out.mono ?_
        rintro e w3 ⟨rfl, hR⟩
        have HRR := Lib.hid hR
        clear hR
        go_wp2_with fail
        go_ret
        exact ⟨_, rfl, HRR.out⟩
    · have hd : ¬ k < N := hk
      have HE : Hid (RewR wr ρ L m i c false wr) := .inl ⟨rfl, rfl, fun j h1 h2 => HI.out j h1 (by rw [HN.out] at h2; omega)⟩
      clear hk
      go_wp2_with fail
      go_ret
      exact ⟨_, rfl, HE.out⟩

end
end Go.Proofs.Ytjlmooimdogmjaa

namespace Go.Proofs.Ytjlmooimdogmjaa
open Go.RowKit

/-- After both calls of best: the first is not false earlier than any, the second than any but the first. -/
theorem best_two {F : Int → Nat} {c c1 c2 : List Int} (h1 : BestI F c 0 c1 c.length) (h2 : BestI F c1 1 c2 c1.length) : c2.Perm c ∧ (∀ j, j < c2.length → F (c2.getD j 0) ≤ F (c2.getD 0 0)) ∧ ∀ j, 1 ≤ j → j < c2.length → F (c2.getD j 0) ≤ F (c2.getD 1 0) := by
  have hp := h2.perm
  have hl := hp.length_eq
  have hl1 := h1.perm.length_eq
  refine ⟨hp.trans h1.perm, fun j hj => ?_, fun j h0 hj => ?_⟩
  · have hm : c2.getD j 0 ∈ c1 := hp.mem_iff.1 (by rw [show c2.getD j 0 = c2[j] by simp [List.getD, hj]]; exact List.getElem_mem hj)
    obtain ⟨k, hk, e⟩ := List.getElem_of_mem hm
    have h0 : c2.getD 0 0 = c1.getD 0 0 := by
      have := h2.take
      cases c2 with
      | nil => simp at hj
      | cons a r =>
        cases c1 with
        | nil => simp at hk
        | cons b r' => simp at this; simp [this]
    rw [h0, ← e]
    have e2 : c1[k] = c1.getD k 0 := by simp [List.getD, hk]
    rw [e2]
    rcases Nat.eq_zero_or_pos k with rfl | h3
    · exact Nat.le_refl _
    · exact h1.max k h3 (by omega) hk
  · rcases Nat.lt_or_ge 1 j with h3 | h3
    · exact h2.max j h3 (by omega) hj
    · rw [show j = 1 by omega]; exact Nat.le_refl _

/-- What settle makes of the clause i, whose literals lie so by then. -/
def SetP (m : Mc) (i : Nat) (c2 : List Int) (b : Bool) (m' : Mc) : Prop := match c2 with
  | [] => b = false ∧ m' = putCl m i []
  | a :: r => (valL m.vs a = 2 ∧ b = false ∧ m' = putCl m i (a :: r)) ∨ (valL m.vs a ≠ 2 ∧ b = true ∧ match r with
    | [] => m' = onlyM (putCl m i [a]) i a 0
    | x :: r' => (valL m.vs x = 2 ∧ m' = onlyM (wat (wat (putCl m i (a :: x :: r')) i a) i x) i a (m.lv (plc x))) ∨ (valL m.vs x ≠ 2 ∧ m' = wat (wat (putCl m i (a :: x :: r')) i a) i x))
def SetR (w : World) (ρ : Nat → Option Rl) (L : Lay) (m : Mc) (i : Nat) (c : List Int) (b : Bool) (w' : World) : Prop :=
  ∃ c2, (c2.Perm c ∧ (∀ j, j < c2.length → ffM m (c2.getD j 0) ≤ ffM m (c2.getD 0 0)) ∧ ∀ j, 1 ≤ j → j < c2.length → ffM m (c2.getD j 0) ≤ ffM m (c2.getD 1 0)) ∧
    ∃ m', SetP m i c2 b m' ∧ ∃ ρ', Chr ρ w ρ' w' ∧ ∃ L', L'.p = L.p ∧ L'.cb = L.cb ∧ MA w' ρ' L' m'

section
variable {w : World} {ρ : Nat → Option Rl} {L : Lay} {m : Mc}
theorem lit_bd {l : Int} {n : Nat} (h : plc l ≤ n) (hn : n ≤ 4000) : -4000 ≤ l ∧ l ≤ 4000 := by
  have e := plc_abs l
  unfold absI at e; split at e <;> omega

set_option maxRecDepth 8000 in
set_option maxHeartbeats 8000000 in
theorem mset2_any (h : MA w ρ L m) (i : Nat) (c : List Int) (hc : m.cl i = some c) (hl : ∀ x ∈ c, plc x ≤ m.n) (hnd : c.Pairwise fun x y => plc x ≠ plc y) (hn : m.n ≤ 4000) (ht : m.tr.length ≤ 4000) (hs : m.st.length ≤ 4000) (hcl : c.length ≤ 1000000) (hw : ∀ j, (m.wt j).length ≤ 1000000) (hlw : ∀ j, (m.lt j).length ≤ 1000000) :
    Calls Try.prog 47 #[ptrP L, ptrC L i] w fun e w' => ∃ b, e = .returned (.bool b) ∧ SetR w ρ L m i c b w' := by
  have HB1 := Lib.hid (mbest_any h i c 0 hc hl hn hs (by omega) hcl)
  have HL := Lib.hid hl
  have HND := Lib.hid hnd
  have HCL := Lib.hid hcl
  clear h hc hl hnd hcl
  unfold ptrP
  unfold ptrP at HB1
  have HPC : Hid (ptrC L i = .pointer (some ⟨L.cb i, 0, none⟩)) := rfl
  rw [HPC.out]
  rw [HPC.out] at HB1
  go_enter Try.func47, Try.ntmps47
  go_wp2_with fail
  refine HB1.out.mono ?_
  rintro e w1 ⟨rfl, hC1, c1, hB1, hM1⟩
  have hl1 : ∀ x ∈ c1, plc x ≤ m.n := fun x hx => HL.out x (hB1.perm.mem_iff.1 hx)
  have HB2 := Lib.hid (mbest_any hM1 i c1 1 (putCl_cl _ _ _) hl1 hn hs (by omega) (by rw [hB1.perm.length_eq]; exact HCL.out))
  unfold ptrP at HB2
  rw [HPC.out] at HB2
  have HBI1 := Lib.hid hB1
  have HC1 := Lib.hid hC1
  clear HB1 hC1 hM1 hl1 hB1
  go_wp2_with fail
  refine HB2.out.mono ?_
  rintro e w2 ⟨rfl, hC2, c2, hB2, hM2⟩
  rw [putCl_twice] at hM2
  have HBT := Lib.hid (best_two HBI1.out hB2)
  have HC2 := Lib.hid (HC1.out.trans hC2)
  have HRES : Hid (∀ b W m' ρ' L', MA W ρ' L' m' → SetP m i c2 b m' → Chr ρ w ρ' W → L'.p = L.p → L'.cb = L.cb → SetR w ρ L m i c b W) := fun b W m' ρ' L' h5 h1 h2 h3 h4 => ⟨c2, HBT.out, m', h1, ρ', h2, L', h3, h4, h5⟩
  have hl2 : ∀ x ∈ c2, plc x ≤ m.n := fun x hx => HL.out x (HBT.out.1.mem_iff.1 hx)
  have hnd2 : c2.Pairwise fun x y => plc x ≠ plc y := (HBT.out.1.pairwise_iff (fun {_ _} hne => Ne.symm hne)).2 HND.out
  have hcl2 : c2.length ≤ 1000000 := by rw [HBT.out.1.length_eq]; exact HCL.out
  clear HB2 HBI1 hC2 hB2 HC1
  have q1 := (hM2.cells (putCl_cl _ _ _)).2
  cases c2 with
  | nil =>
    obtain ⟨sa, sc, hsh, _⟩ := own_shape (hM2.lit (putCl_cl _ _ _))
    rw [hsh] at q1
    have hz : ([] : List Int).length = 0 := rfl
    rw [hz] at q1
    have HE := Lib.hid (HRES.out false _ _ _ _ hM2 ⟨rfl, rfl⟩ HC2.out rfl rfl)
    clear hM2 hsh hl2 hnd2 hcl2 hz
    go_wp2_with fail
    go_ret
    exact ⟨_, rfl, HE.out⟩
  | cons a r =>
    obtain ⟨g, kc, e, _, hcell, _, _, _⟩ := hM2.lits (putCl_cl _ _ _) (by simp)
    rw [e] at q1
    have x0 := hcell 0 a rfl
    have hla := hl2 a (by simp)
    obtain ⟨hb1, hb2⟩ := lit_bd hla hn
    have HV := Lib.hid (mval_any hM2 a (by omega) (by omega))
    unfold ptrP at HV
    have HM2 := Lib.hid hM2
    have hln : (a :: r).length = r.length + 1 := rfl
    rw [hln] at q1 hcl2
    clear hln
    by_cases hv : valL m.vs a = 2
    · have hv' : valL (putCl m i (a :: r)).vs a = 2 := hv
      rw [hv'] at HV
      have HE := Lib.hid (HRES.out false _ _ _ _ hM2 (.inl ⟨hv, rfl, rfl⟩) HC2.out rfl rfl)
      clear hM2 hl2 hnd2 e hcell hv hv' HM2 HRES
      generalize r.length = N at *
      go_wp2_with fail
      refine HV.out.mono ?_
      rintro e w3 ⟨rfl, rfl⟩
      go_wp2_with fail
      go_ret
      exact ⟨_, rfl, HE.out⟩
    · have hvb : (valL (putCl m i (a :: r)).vs a == 2) = false := beq_eq_false_iff_ne.2 hv
      have HVN := Lib.hid hv
      clear hv
      cases r with
      | nil =>
        have HO := Lib.hid (monly_any hM2 i a [] (putCl_cl _ _ _) hl2 (by simp) hn ht hs (by have := hlw (plc a); show (m.lt (plc a)).length ≤ _; omega))
        unfold ptrP at HO
        rw [HPC.out] at HO
        clear hM2 hl2 hnd2 e hcell
        generalize valL (putCl m i [a]).vs a = x at *
        go_wp2_with fail
        refine HV.out.mono ?_
        rintro e w3 ⟨rfl, rfl⟩
        go_wp2_with fail
        refine HO.out.mono ?_
        rintro e w4 ⟨rfl, ρ4, hC4, tv, lv, hM4⟩
        have HE := Lib.hid (HRES.out true _ _ _ _ hM4 (.inr ⟨HVN.out, rfl, rfl⟩) (HC2.out.trans hC4) rfl rfl)
        clear hM4 hC4
        go_wp2_with fail
        go_ret
        exact ⟨_, rfl, HE.out⟩
      | cons y r' =>
        have hly := hl2 y (by simp)
        obtain ⟨hy1, hy2⟩ := lit_bd hly hn
        have HW1 : Hid (Calls Try.prog 75 #[.pointer (some ⟨L.p, 0, none⟩), .pointer (some ⟨L.cb i, 0, none⟩), .int .i64 0] w2 fun e w' => e = .returned (.tuple #[]) ∧ ∃ ρ', Chr ρ w2 ρ' w' ∧ ∃ v, MA w' ρ' { L with wv := upd L.wv (wx a) v } (wat (putCl m i (a :: y :: r')) i a)) := mwatch_any hM2 i _ 0 a (putCl_cl _ _ _) rfl hla hn (by have := hw (wx a); show (m.wt (wx a)).length ≤ _; omega)
        have hln : (y :: r').length = r'.length + 1 := rfl
        rw [hln] at q1 hcl2
        clear hM2 e hcell hln
        have HL2 := Lib.hid hl2
        have HND2 := Lib.hid hnd2
        clear hl2 hnd2
        generalize valL (putCl m i (a :: y :: r')).vs a = x at *
        generalize hN : r'.length = N at *
        clear hN
        go_wp2_with fail
        refine HV.out.mono ?_
        rintro e w3 ⟨rfl, rfl⟩
        go_wp2_with fail
        refine HW1.out.mono ?_
        rintro e w4 ⟨rfl, ρ4, hC4, v4, hM4⟩
        have HW2 : Hid (Calls Try.prog 75 #[.pointer (some ⟨L.p, 0, none⟩), .pointer (some ⟨L.cb i, 0, none⟩), .int .i64 1] w4 fun e w' => e = .returned (.tuple #[]) ∧ ∃ ρ', Chr ρ4 w4 ρ' w' ∧ ∃ v, MA w' ρ' { L with wv := upd (upd L.wv (wx a) v4) (wx y) v } (wat (wat (putCl m i (a :: y :: r')) i a) i y)) := mwatch_any hM4 i _ 1 y (putCl_cl _ _ _) rfl hly hn (by
          have h1 := hw (wx y)
          have h2 := hw (wx a)
          show (upd m.wt (wx a) (m.wt (wx a) ++ [i]) (wx y)).length ≤ _
          unfold upd
          split
          · rw [List.length_append]; simp; omega
          · omega)
        have HC4 := Lib.hid (HC2.out.trans hC4)
        clear HW1 hC4 hM4
        go_wp2_with fail
        refine HW2.out.mono ?_
        rintro e w5 ⟨rfl, ρ5, hC5, v5, hM5⟩
        have HC5 := Lib.hid (HC4.out.trans hC5)
        have HVY : Hid (Calls Try.prog 11 #[.pointer (some ⟨L.p, 0, none⟩), .int .i64 y] w5 fun e w' => e = .returned (.int .i64 (valL m.vs y)) ∧ w5 = w') := mval_any hM5 y (by omega) (by omega)
        obtain ⟨g5, kc5, e5, _, hcell5, _, _, _⟩ := hM5.lits (putCl_cl _ _ _) (by simp)
        have q5 := (hM5.cells (putCl_cl _ _ _)).2
        rw [e5] at q5
        have x5 := hcell5 1 y rfl
        have q6 : w5.cell? ⟨L.cb i, 1, none⟩ = some (.slice (some ⟨g5, 0, none⟩) (r'.length + 1 + 1) kc5) := q5
        have HM5 := Lib.hid hM5
        clear HW2 hC5 q5 hcell5 e5 hM5 x0 q1
        generalize r'.length = N5 at *
        obtain ⟨z, hz⟩ : ∃ z, valL m.vs y = z := ⟨_, rfl⟩
        rw [hz] at HVY
        have HZ := Lib.hid hz
        clear hz
        by_cases hz2 : z = 2
        · subst hz2
          have HO := Lib.hid (monly_any HM5.out i a (y :: r') (putCl_cl _ _ _) HL2.out (fun x hx => fun e => (List.rel_of_pairwise_cons HND2.out hx) e.symm) hn ht hs (by have := hlw (plc a); show (m.lt (plc a)).length ≤ _; omega))
          unfold ptrP at HO
          have HPC5 : Hid (∀ v, ptrC { L with wv := v } i = .pointer (some ⟨L.cb i, 0, none⟩)) := fun _ => rfl
          rw [HPC5.out] at HO
          go_wp2_with fail
          refine HVY.out.mono ?_
          rintro e w6 ⟨rfl, rfl⟩
          go_wp2_with fail
          refine HO.out.mono ?_
          rintro e w7 ⟨rfl, ρ7, hC7, tv, lv, hM7⟩
          have HE := Lib.hid (HRES.out true _ _ _ _ hM7 (.inr ⟨HVN.out, rfl, .inl ⟨HZ.out, rfl⟩⟩) (HC5.out.trans hC7) rfl rfl)
          clear hM7 hC7
          go_wp2_with fail
          go_ret
          exact ⟨_, rfl, HE.out⟩
        · have hzb : (z == 2) = false := beq_eq_false_iff_ne.2 hz2
          have HE := Lib.hid (HRES.out true _ _ _ _ HM5.out (.inr ⟨HVN.out, rfl, .inr ⟨by rw [HZ.out]; exact hz2, rfl⟩⟩) HC5.out rfl rfl)
          clear hz2
          go_wp2_with fail
          refine HVY.out.mono ?_
          rintro e w6 ⟨rfl, rfl⟩
          go_wp2_with fail
          go_ret
          exact ⟨_, rfl, HE.out⟩

end
end Go.Proofs.Ytjlmooimdogmjaa
