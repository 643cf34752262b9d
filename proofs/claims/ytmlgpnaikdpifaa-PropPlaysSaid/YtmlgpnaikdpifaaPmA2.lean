/- The contract of prop's settle. Conditions: the prop lies in memory as 'MA' says; its numbers are small. · The contract of slices.Index at pointers of clauses. Conditions: the row is a prop's; unlike clauses lie apart. · The contracts of slices.Delete at pointers of clauses, one of them, and of prop.without. Conditions: the row is a prop's. · The contract of prop's unwatch. Conditions: the prop lies in memory as 'MA' says; what its lists name is there. · The contract of prop's loosen. Conditions: the prop lies in memory as 'MA' says; what its lists, and the list handed in, name is there. · What the program's calls keep, purely: other orders of a clause's literals, what 'only' does, taking clauses out of the lists. No conditions beyond those typed. · What prop's tell, settle and Propagate keep, purely. No conditions beyond those typed. · What prop's tell, settle and Propagate keep, purely: the beginning and the end of tell, another literal that watches, settle. No conditions beyond those typed. · Bounds of a state (how many there may be); a row written in place, cleared behind its end; an append that has room. No conditions beyond those typed. · Contracts of prop's Trail, Clause, Reason, isReason. Conditions: 64-bit ints; the prop lies in memory as 'MA' says. · The contract of prop's tell. Conditions: the prop lies in memory as 'MA' says, in the middle of what 'TI' says. · The contract of prop's Propagate, of the state in memory. Conditions: the prop lies in memory as 'MA' says, at rest. -/
import Derived.Test.YtmlgpnaikdpifaaPmA1
import Derived.LaidEqlPtr
import Derived.Lib.SliceRun
import Derived.Laws.OwnMore
import Derived.Deep.RegionLaw
import Derived.Test.YtmlgpnaikdpifaaAppS
import Derived.Test.YtmlgpnaikdpifaaClI
import Derived.Deep.LoopGhost
set_option linter.unusedVariables false
set_option linter.unusedSimpArgs false
namespace Go.Proofs.Ytmlgpnaikdpifaa
open Go.RowKit

/-- After both calls of best: the first is not false earlier than any, the second than any but the first. -/
theorem best_two {F : Int → Nat} {c c1 c2 : List Int} (h1 : BestI F c 0 c1 c.length) (h2 : BestI F c1 1 c2 c1.length) : c2.Perm c ∧ (∀ j, j < c2.length → F (c2.getD j 0) ≤ F (c2.getD 0 0)) ∧ ∀ j, 1 ≤ j → j < c2.length → F (c2.getD j 0) ≤ F (c2.getD 1 0) := by
  have hp := h2.perm
  have hl := hp.length_eq
  have hl1 := h1.perm.length_eq
  refine ⟨hp.trans h1.perm, fun j hj => ?_, fun j h0 hj => ?_⟩
  · have hm : c2.getD j 0 ∈ c1 := hp.mem_iff.1 (by rw [show c2.getD j 0 = c2[j] by simp [List.getD, hj]]; exact List.getElem_mem hj)
    obtain ⟨k, hk, e⟩ := List.getElem_of_mem hm
    have h0 : c2.getD 0 0 = c1.getD 0 0 := by
      have := h2.take
      cases c2 with
      | nil => simp at hj
      | cons a r =>
        cases c1 with
        | nil => simp at hk
        | cons b r' => simp at this; simp [this]
    rw [h0, ← e]
    have e2 : c1[k] = c1.getD k 0 := by simp [List.getD, hk]
    rw [e2]
    rcases Nat.eq_zero_or_pos k with rfl | h3
    · exact Nat.le_refl _
    · exact h1.max k h3 (by omega) hk
  · rcases Nat.lt_or_ge 1 j with h3 | h3
    · exact h2.max j h3 (by omega) hj
    · rw [show j = 1 by omega]; exact Nat.le_refl _

/-- What settle makes of the clause i, whose literals lie so by then. -/
def SetP (m : Mc) (i : Nat) (c2 : List Int) (b : Bool) (m' : Mc) : Prop := match c2 with
  | [] => b = false ∧ m' = putCl m i []
  | a :: r => (valL m.vs a = 2 ∧ b = false ∧ m' = putCl m i (a :: r)) ∨ (valL m.vs a ≠ 2 ∧ b = true ∧ match r with
    | [] => m' = onlyM (putCl m i [a]) i a 0
    | x :: r' => (valL m.vs x = 2 ∧ m' = onlyM (wat (wat (putCl m i (a :: x :: r')) i a) i x) i a (m.lv (plc x))) ∨ (valL m.vs x ≠ 2 ∧ m' = wat (wat (putCl m i (a :: x :: r')) i a) i x))
def SetR (w : World) (ρ : Nat → Option Rl) (L : Lay) (m : Mc) (i : Nat) (c : List Int) (b : Bool) (w' : World) : Prop :=
  ∃ c2, (c2.Perm c ∧ (∀ j, j < c2.length → ffM m (c2.getD j 0) ≤ ffM m (c2.getD 0 0)) ∧ ∀ j, 1 ≤ j → j < c2.length → ffM m (c2.getD j 0) ≤ ffM m (c2.getD 1 0)) ∧
    ∃ m', SetP m i c2 b m' ∧ ∃ ρ', Chr ρ w ρ' w' ∧ ∃ L', L'.p = L.p ∧ L'.cb = L.cb ∧ MA w' ρ' L' m'

section
variable {w : World} {ρ : Nat → Option Rl} {L : Lay} {m : Mc}
theorem lit_bd {l : Int} {n : Nat} (h : plc l ≤ n) (hn : n ≤ 4000) : -4000 ≤ l ∧ l ≤ 4000 := by
  have e := plc_abs l
  unfold absI at e; split at e <;> omega

set_option maxRecDepth 8000 in
set_option maxHeartbeats 8000000 in
theorem mset2_any (h : MA w ρ L m) (i : Nat) (c : List Int) (hc : m.cl i = some c) (hl : ∀ x ∈ c, plc x ≤ m.n) (hnd : c.Pairwise fun x y => plc x ≠ plc y) (hn : m.n ≤ 4000) (ht : m.tr.length ≤ 4000) (hs : m.st.length ≤ 4000) (hcl : c.length ≤ 1000000) (hw : ∀ j, (m.wt j).length ≤ 1000000) (hlw : ∀ j, (m.lt j).length ≤ 1000000) :
    Calls Try.prog 46 #[ptrP L, ptrC L i] w fun e w' => ∃ b, e = .returned (.bool b) ∧ SetR w ρ L m i c b w' := by
  have HB1 := Lib.hid (mbest_any h i c 0 hc hl hn hs (by omega) hcl)
  have HL := Lib.hid hl
  have HND := Lib.hid hnd
  have HCL := Lib.hid hcl
  clear h hc hl hnd hcl
  unfold ptrP
  unfold ptrP at HB1
  have HPC : Hid (ptrC L i = .pointer (some ⟨L.cb i, 0, none⟩)) := rfl
  rw [HPC.out]
  rw [HPC.out] at HB1
  go_enter Try.func46, Try.ntmps46
  go_wp2_with fail
  refine HB1.out.mono ?_
  rintro e w1 ⟨rfl, hC1, c1, hB1, hM1⟩
  have hl1 : ∀ x ∈ c1, plc x ≤ m.n := fun x hx => HL.out x (hB1.perm.mem_iff.1 hx)
  have HB2 := Lib.hid (mbest_any hM1 i c1 1 (putCl_cl _ _ _) hl1 hn hs (by omega) (by rw [hB1.perm.length_eq]; exact HCL.out))
  unfold ptrP at HB2
  rw [HPC.out] at HB2
  have HBI1 := Lib.hid hB1
  have HC1 := Lib.hid hC1
  clear HB1 hC1 hM1 hl1 hB1
  go_wp2_with fail
  refine HB2.out.mono ?_
  rintro e w2 ⟨rfl, hC2, c2, hB2, hM2⟩
  rw [putCl_twice] at hM2
  have HBT := Lib.hid (best_two HBI1.out hB2)
  have HC2 := Lib.hid (HC1.out.trans hC2)
  have HRES : Hid (∀ b W m' ρ' L', MA W ρ' L' m' → SetP m i c2 b m' → Chr ρ w ρ' W → L'.p = L.p → L'.cb = L.cb → SetR w ρ L m i c b W) := fun b W m' ρ' L' h5 h1 h2 h3 h4 => ⟨c2, HBT.out, m', h1, ρ', h2, L', h3, h4, h5⟩
  have hl2 : ∀ x ∈ c2, plc x ≤ m.n := fun x hx => HL.out x (HBT.out.1.mem_iff.1 hx)
  have hnd2 : c2.Pairwise fun x y => plc x ≠ plc y := (HBT.out.1.pairwise_iff (fun {_ _} hne => Ne.symm hne)).2 HND.out
  have hcl2 : c2.length ≤ 1000000 := by rw [HBT.out.1.length_eq]; exact HCL.out
  clear HB2 HBI1 hC2 hB2 HC1
  have q1 := (hM2.cells (putCl_cl _ _ _)).2
  cases c2 with
  | nil =>
    obtain ⟨sa, sc, hsh, _⟩ := own_shape (hM2.lit (putCl_cl _ _ _))
    rw [hsh] at q1
    have hz : ([] : List Int).length = 0 := rfl
    rw [hz] at q1
    have HE := Lib.hid (HRES.out false _ _ _ _ hM2 ⟨rfl, rfl⟩ HC2.out rfl rfl)
    clear hM2 hsh hl2 hnd2 hcl2 hz
    go_wp2_with fail
    go_ret
    exact ⟨_, rfl, HE.out⟩
  | cons a r =>
    obtain ⟨g, kc, e, _, hcell, _, _, _⟩ := hM2.lits (putCl_cl _ _ _) (by simp)
    rw [e] at q1
    have x0 := hcell 0 a rfl
    have hla := hl2 a (by simp)
    obtain ⟨hb1, hb2⟩ := lit_bd hla hn
    have HV := Lib.hid (mval_any hM2 a (by omega) (by omega))
    unfold ptrP at HV
    have HM2 := Lib.hid hM2
    have hln : (a :: r).length = r.length + 1 := rfl
    rw [hln] at q1 hcl2
    clear hln
    by_cases hv : valL m.vs a = 2
    · have hv' : valL (putCl m i (a :: r)).vs a = 2 := hv
      rw [hv'] at HV
      have HE := Lib.hid (HRES.out false _ _ _ _ hM2 (.inl ⟨hv, rfl, rfl⟩) HC2.out rfl rfl)
      clear hM2 hl2 hnd2 e hcell hv hv' HM2 HRES
      generalize r.length = N at *
      go_wp2_with fail
      refine HV.out.mono ?_
      rintro e w3 ⟨rfl, rfl⟩
      go_wp2_with fail
      go_ret
      exact ⟨_, rfl, HE.out⟩
    · have hvb : (valL (putCl m i (a :: r)).vs a == 2) = false := beq_eq_false_iff_ne.2 hv
      have HVN := Lib.hid hv
      clear hv
      cases r with
      | nil =>
        have HO := Lib.hid (monly_any hM2 i a [] (putCl_cl _ _ _) hl2 (by simp) hn ht hs (by have := hlw (plc a); show (m.lt (plc a)).length ≤ _; omega))
        unfold ptrP at HO
        rw [HPC.out] at HO
        clear hM2 hl2 hnd2 e hcell
        generalize valL (putCl m i [a]).vs a = x at *
        go_wp2_with fail
        refine HV.out.mono ?_
        rintro e w3 ⟨rfl, rfl⟩
        go_wp2_with fail
        refine HO.out.mono ?_
        rintro e w4 ⟨rfl, ρ4, hC4, tv, lv, hM4⟩
        have HE := Lib.hid (HRES.out true _ _ _ _ hM4 (.inr ⟨HVN.out, rfl, rfl⟩) (HC2.out.trans hC4) rfl rfl)
        clear hM4 hC4
        go_wp2_with fail
        go_ret
        exact ⟨_, rfl, HE.out⟩
      | cons y r' =>
        have hly := hl2 y (by simp)
        obtain ⟨hy1, hy2⟩ := lit_bd hly hn
        have HW1 : Hid (Calls Try.prog 85 #[.pointer (some ⟨L.p, 0, none⟩), .pointer (some ⟨L.cb i, 0, none⟩), .int .i64 0] w2 fun e w' => e = .returned (.tuple #[]) ∧ ∃ ρ', Chr ρ w2 ρ' w' ∧ ∃ v, MA w' ρ' { L with wv := upd L.wv (wx a) v } (wat (putCl m i (a :: y :: r')) i a)) := mwatch_any hM2 i _ 0 a (putCl_cl _ _ _) rfl hla hn (by have := hw (wx a); show (m.wt (wx a)).length ≤ _; omega)
        have hln : (y :: r').length = r'.length + 1 := rfl
        rw [hln] at q1 hcl2
        clear hM2 e hcell hln
        have HL2 := Lib.hid hl2
        have HND2 := Lib.hid hnd2
        clear hl2 hnd2
        generalize valL (putCl m i (a :: y :: r')).vs a = x at *
        generalize hN : r'.length = N at *
        clear hN
        go_wp2_with fail
        refine HV.out.mono ?_
        rintro e w3 ⟨rfl, rfl⟩
        go_wp2_with fail
        refine HW1.out.mono ?_
        rintro e w4 ⟨rfl, ρ4, hC4, v4, hM4⟩
        have HW2 : Hid (Calls Try.prog 85 #[.pointer (some ⟨L.p, 0, none⟩), .pointer (some ⟨L.cb i, 0, none⟩), .int .i64 1] w4 fun e w' => e = .returned (.tuple #[]) ∧ ∃ ρ', Chr ρ4 w4 ρ' w' ∧ ∃ v, MA w' ρ' { L with wv := upd (upd L.wv (wx a) v4) (wx y) v } (wat (wat (putCl m i (a :: y :: r')) i a) i y)) := mwatch_any hM4 i _ 1 y (putCl_cl _ _ _) rfl hly hn (by
          have h1 := hw (wx y)
          have h2 := hw (wx a)
          show (upd m.wt (wx a) (m.wt (wx a) ++ [i]) (wx y)).length ≤ _
          unfold upd
          split
          · rw [List.length_append]; simp; omega
          · omega)
        have HC4 := Lib.hid (HC2.out.trans hC4)
        clear HW1 hC4 hM4
        go_wp2_with fail
        refine HW2.out.mono ?_
        rintro e w5 ⟨rfl, ρ5, hC5, v5, hM5⟩
        have HC5 := Lib.hid (HC4.out.trans hC5)
        have HVY : Hid (Calls Try.prog 17 #[.pointer (some ⟨L.p, 0, none⟩), .int .i64 y] w5 fun e w' => e = .returned (.int .i64 (valL m.vs y)) ∧ w5 = w') := mval_any hM5 y (by omega) (by omega)
        obtain ⟨g5, kc5, e5, _, hcell5, _, _, _⟩ := hM5.lits (putCl_cl _ _ _) (by simp)
        have q5 := (hM5.cells (putCl_cl _ _ _)).2
        rw [e5] at q5
        have x5 := hcell5 1 y rfl
        have q6 : w5.cell? ⟨L.cb i, 1, none⟩ = some (.slice (some ⟨g5, 0, none⟩) (r'.length + 1 + 1) kc5) := q5
        have HM5 := Lib.hid hM5
        clear HW2 hC5 q5 hcell5 e5 hM5 x0 q1
        generalize r'.length = N5 at *
        obtain ⟨z, hz⟩ : ∃ z, valL m.vs y = z := ⟨_, rfl⟩
        rw [hz] at HVY
        have HZ := Lib.hid hz
        clear hz
        by_cases hz2 : z = 2
        · subst hz2
          have HO := Lib.hid (monly_any HM5.out i a (y :: r') (putCl_cl _ _ _) HL2.out (fun x hx => fun e => (List.rel_of_pairwise_cons HND2.out hx) e.symm) hn ht hs (by have := hlw (plc a); show (m.lt (plc a)).length ≤ _; omega))
          unfold ptrP at HO
          have HPC5 : Hid (∀ v, ptrC { L with wv := v } i = .pointer (some ⟨L.cb i, 0, none⟩)) := fun _ => rfl
          rw [HPC5.out] at HO
          go_wp2_with fail
          refine HVY.out.mono ?_
          rintro e w6 ⟨rfl, rfl⟩
          go_wp2_with fail
          refine HO.out.mono ?_
          rintro e w7 ⟨rfl, ρ7, hC7, tv, lv, hM7⟩
          have HE := Lib.hid (HRES.out true _ _ _ _ hM7 (.inr ⟨HVN.out, rfl, .inl ⟨HZ.out, rfl⟩⟩) (HC5.out.trans hC7) rfl rfl)
          clear hM7 hC7
          go_wp2_with fail
          go_ret
          exact ⟨_, rfl, HE.out⟩
        · have hzb : (z == 2) = false := beq_eq_false_iff_ne.2 hz2
          have HE := Lib.hid (HRES.out true _ _ _ _ HM5.out (.inr ⟨HVN.out, rfl, .inr ⟨by rw [HZ.out]; exact hz2, rfl⟩⟩) HC5.out rfl rfl)
          clear hz2
          go_wp2_with fail
          refine HVY.out.mono ?_
          rintro e w6 ⟨rfl, rfl⟩
          go_wp2_with fail
          go_ret
          exact ⟨_, rfl, HE.out⟩

end
end Go.Proofs.Ytmlgpnaikdpifaa

namespace Go.Proofs.Ytmlgpnaikdpifaa
open Go.RowKit

theorem clSize : (Try.prog.info? 75).map (·.size) = some 2 := by kernel_rfl
section
variable {w : World} {L : Lay}
/-- Where i stands first. -/
def idxM (xs : List Nat) (i : Nat) : Int := if i ∈ xs then (xs.idxOf i : Int) else -1
theorem own_nilv {e : TypeId} {v : Value} {n : Nat} {xs : List Value} (h : w.ownsRow 0 e 1 v n xs) (h0 : n = 0) : ∃ a c, v = .slice a 0 c := by
  obtain ⟨a, c, e, _⟩ := own_shape h
  exact ⟨a, c, by rw [e, h0]⟩

set_option maxRecDepth 8000 in
set_option maxHeartbeats 4000000 in
theorem mindex_any (v : Value) (xs : List Nat) (i : Nat) (ho : w.ownsRow 0 73 1 v xs.length (xs.map (ptrC L))) (hinj : ∀ x ∈ xs, L.cb x = L.cb i → x = i) (hbl : ∀ x, x ∈ xs ∨ x = i → ∃ cs T, w.heap[L.cb x]? = some (.cells cs T (0, 0))) (hn : xs.length ≤ 1000000000) :
    Calls Try.prog 88 #[v, ptrC L i] w fun e w' => e = .returned (.int .i64 (idxM xs i)) ∧ w' = w := by
  obtain ⟨sa, sc, rfl, _⟩ := own_shape ho
  have HO := Lib.hid ho
  have HJ := Lib.hid hinj
  have HBL := Lib.hid hbl
  clear ho hinj hbl
  obtain ⟨jt, hj, hjs⟩ := Option.map_eq_some_iff.1 clSize
  have HPC : Hid (ptrC L i = .pointer (some ⟨L.cb i, 0, none⟩)) := rfl
  rw [HPC.out]
  generalize hN : xs.length = N at *
  have HN := Lib.hid hN
  clear hN
  go_enter Try.func88, Try.ntmps88
  go_wp2_with fail
  go_loopw [5, 8] (fun _ u8 wr => ∃ k : Nat, k ≤ N ∧ u8 = .int .i64 (k : Int) ∧ wr = w ∧ Hid (i ∉ xs.take k)) (fun _ u8 _ => N - (intOf u8).toNat)
  case atStart => exact ⟨0, Nat.zero_le _, rfl, rfl, by simp [Hid]⟩
  case round =>
    obtain ⟨k, hk1, rfl, rfl, HI⟩ := hrel
    by_cases hk : k < N
    · obtain ⟨g, cap, e⟩ := own_at HO.out (by omega)
      injection e with e1 _ e3
      subst e1; subst e3
      have hkx : k < xs.length := by rw [HN.out]; exact hk
      have x1 := own_cell HO.out (i := k) (u := ptrC L (xs.getD k 0)) (by rw [List.getElem?_map]; simp [List.getD, hkx])
      have HX : Hid (xs.getD k 0 = xs[k]) := by unfold Hid; simp [List.getD, hkx]
      have HT : Hid (xs.take (k + 1) = xs.take k ++ [xs.getD k 0]) := by unfold Hid; rw [HX.out]; exact List.take_succ_eq_append_getElem hkx
      have hm : xs.getD k 0 ∈ xs := by rw [HX.out]; exact List.getElem_mem hkx
      have HJ1 := Lib.hid (HJ.out _ hm)
      have HID : Hid (xs.getD k 0 = i → idxM xs i = (k : Int)) := fun e => by
        unfold idxM
        rw [if_pos (e ▸ hm)]
        have h1 : xs.idxOf i = k := by
          have hsplit : xs = xs.take k ++ xs.drop k := (List.take_append_drop k xs).symm
          rw [hsplit, List.idxOf_append, if_neg HI.out, List.length_take, Nat.min_eq_left (by omega)]
          rw [List.drop_eq_getElem_cons hkx, ← HX.out, e]
          simp
        rw [h1]
      rw [show ptrC L (xs.getD k 0) = .pointer (some ⟨L.cb (xs.getD k 0), 0, none⟩) from rfl] at x1
      by_cases he : L.cb (xs.getD k 0) = L.cb i
      · have hx := HJ1.out he
        have HE := Lib.hid (HID.out hx)
        rw [he] at x1
        have hq := run_eql_ptr_same (P := Try.prog) wr (tp := 73) ⟨L.cb i, 0, none⟩ Try.underlying73 hj
        clear he hx hkx HX HT hm
        go_wp2_with fail
        go_ret
        exact ⟨ret_int HE.out.symm, rfl⟩
      · have HNE : Hid (i ∉ xs.take (k + 1)) := by
          unfold Hid
          rw [HT.out]
          intro hm
          rw [List.mem_append, List.mem_singleton] at hm
          rcases hm with hm | hm
          · exact HI.out hm
          · exact he (by rw [← hm])
        obtain ⟨c1, t1, hb1⟩ := HBL.out _ (.inl hm)
        obtain ⟨c2, t2, hb2⟩ := HBL.out i (.inr rfl)
        have hq := run_eql_ptr_other (P := Try.prog) wr (tp := 73) (a := ⟨L.cb i, 0, none⟩) (b := ⟨L.cb (xs.getD k 0), 0, none⟩) Try.underlying73 hj (by rw [hjs]; decide) (fun e => he (by injection e with e; exact e.symm)) hb2 hb1
        clear hb1 hb2 hm
        generalize L.cb (xs.getD k 0) = y at *
        clear hkx HX HT
        go_wp2_with fail
        go_roundw
        case rel => exact ⟨k + 1, by omega, by go_num, by first | rfl | trivial, HNE.out⟩
        case measure => go_light; simp [intOf]; omega
    · have hd : ¬ k < N := hk
      have HE : Hid (idxM xs i = -1) := by
        unfold Hid idxM
        rw [if_neg]
        have := HI.out
        rw [List.take_of_length_le (by rw [HN.out]; omega)] at this
        exact this
      go_wp2_with fail
      go_ret
      exact ⟨ret_int HE.out.symm, rfl⟩

end
end Go.Proofs.Ytmlgpnaikdpifaa

namespace Go.Proofs.Ytmlgpnaikdpifaa
open Go.RowKit

/-- An append that fits, as one step of a region that draws. -/
theorem step_fits {ops : Array Oper} {o : Oper} {a : Act} {K : Act → World → Prop} {Q : Exit → Act → World → Prop} {EE : Prop} (T E : TypeId) (z : Value) (bytes : Nat) (hT : Try.prog.underlying T = some (.slice E))
    (hE : (Try.prog.info? E).map (fun i => (i.zero, i.size, i.bytes)) = some (some z, 1, bytes)) (hgd : o.guard = none) (s x : Operand)
    (ho : o.op = .call { callee := .builtin .append, args := #[s, x], argTypes := #[T, T] })
    (w : World) (g n cap : Nat) (xs : List Value) (ad : Addr) (m c : Nat) (news : List Value)
    (hown : w.ownsRow 0 E 1 (.slice (some ⟨g, 0, none⟩) n cap) n xs) (hl : news.length = m * 1) (hc : ∀ j u, news[j]? = some u → w.cell? (ad.add j) = some u) (h1 : ∀ u ∈ news, u.oneCell' = true) (hr : n + m ≤ cap)
    (hs : a.eval s = .slice (some ⟨g, 0, none⟩) n cap) (hx : a.eval x = .slice (some ad) m c)
    (h : ∀ w', w'.ownsRow 0 E 1 (.slice (some ⟨g, 0, none⟩) (n + m) cap) (n + m) (xs ++ news) → w.grownBy w' (some g) → K (a.put o.dst (.slice (some ⟨g, 0, none⟩) (n + m) cap)) w') :
    if Region.wanted o (yielded ops a.tmps) = true then Oper.wp Try.prog o a w K Q else EE := by
  have hw : Region.wanted o (yielded ops a.tmps) = true := by simp [Region.wanted, hgd]
  rw [if_pos hw]
  obtain ⟨i0, hi, hz0, hz1, hz2⟩ := info_parts hE
  obtain ⟨w', hr', h2, h3⟩ := run_append_fits (P := Try.prog) w 0 T o.type E i0 1 hT hi hz1 g n cap xs hown ad m c news hl hc h1 hr
  unfold Oper.wp execOp
  simp only [ho, resolve, invoke, builtin, Sem.run_bind, Sem.run_pure, Result.andThen_ok, List.map_toArray, List.map_cons, List.map_nil, hs, hx, hr']
  exact h w' h2 h3

theorem own_isSome {w : World} {B : Nat} {e : TypeId} {g n cap : Nat} {xs : List Value} (h : w.ownsRow B e 1 (.slice (some ⟨g, 0, none⟩) n cap) n xs) {i : Nat} (hi : i < cap) : (w.cell? ⟨g, i, none⟩).isSome = true := by
  rcases h.2 with ⟨e0, _⟩ | ⟨g', cap', cur, e0, _, hg, h1, h2, h3, h4⟩
  · cases e0
  · injection e0 with e1 _ e3
    injection e1 with e1
    injection e1 with e1
    subst e1; subst e3
    simp [World.cell?, hg, h3, hi]
/-- A store behind the row's end. -/
theorem own_beyond {w : World} {B : Nat} {e : TypeId} {g n cap : Nat} {xs : List Value} (h : w.ownsRow B e 1 (.slice (some ⟨g, 0, none⟩) n cap) n xs) (i : Nat) (u : Value) (hi : n ≤ i) : (w.setCell ⟨g, i, none⟩ u).ownsRow B e 1 (.slice (some ⟨g, 0, none⟩) n cap) n xs := by
  obtain ⟨h1, h2⟩ := h
  refine ⟨h1, ?_⟩
  rcases h2 with ⟨e0, _⟩ | ⟨g', cap', cur, hv, hg, hh, k1, k2, k3, k4⟩
  · cases e0
  · injection hv with e1 e2 e3
    injection e1 with e1
    injection e1 with e1 _ _
    subst e1; subst e3
    refine .inr ⟨g, cap, cur.setIfInBounds i u, rfl, hg, ?_, k1, k2, by simpa using k3, ?_⟩
    · have hlt : g < w.heap.size := by
        rcases Nat.lt_or_ge g w.heap.size with h' | h'
        · exact h'
        · rw [Array.getElem?_eq_none h'] at hh; cases hh
      have h' : w.heap[g] = .cells cur e (0, 0) := by simpa [Array.getElem?_eq_getElem hlt] using hh
      show (w.heap.modify g _)[g]? = _
      rw [Array.getElem?_eq_getElem (by simpa using hlt), Array.getElem_modify_self, h']
      rfl
    · rw [← k4, Array.toList_setIfInBounds, List.take_set_of_le (by omega)]
theorem zeroPc (w : World) : (zeroValue 73).run Try.prog w = .ok (.pointer none) w := by kernel_rfl

section
variable {w : World} {L : Lay}

set_option maxRecDepth 8000 in
set_option maxHeartbeats 4000000 in
theorem mdelete_any (g n cap : Nat) (ys : List Value) (k : Nat) (ho : w.ownsRow 0 73 1 (.slice (some ⟨g, 0, none⟩) n cap) n ys) (h1 : ∀ u ∈ ys, u.oneCell' = true) (hk : k < n) :
    Calls Try.prog 47 #[.slice (some ⟨g, 0, none⟩) n cap, .int .i64 (k : Int), .int .i64 ((k : Int) + 1)] w fun e w' => e = .returned (.slice (some ⟨g, 0, none⟩) (n - 1) cap) ∧ w'.ownsRow 0 73 1 (.slice (some ⟨g, 0, none⟩) (n - 1) cap) (n - 1) (ys.eraseIdx k) ∧ Only g w w' := by
  obtain ⟨hnc, hcm⟩ := own_cap ho
  have hlen : ys.length = n := by have := ho.1; omega
  have HPRE : Hid (w.ownsRow 0 73 1 (.slice (some ⟨g, 0, none⟩) k cap) k (ys.take k)) := by
    refine own_less (m := n - k) (ys := ys.drop k) ?_ (by simp; omega)
    rw [List.take_append_drop, show k + (n - k) = n by omega]
    exact ho
  have HSRC : Hid (∀ (A : Addr), (if cap = k + 1 then (some ⟨g, 0, none⟩ : Option Addr) else some ⟨g, k + 1, none⟩) = some A → ∀ j u, (ys.drop (k + 1))[j]? = some u → w.cell? (A.add j) = some u) := fun A hA j u hj => by
    rw [List.getElem?_drop] at hj
    have hjl : k + 1 + j < ys.length := by
      rcases Nat.lt_or_ge (k + 1 + j) ys.length with h' | h'
      · exact h'
      · rw [List.getElem?_eq_none h'] at hj; cases hj
    by_cases hc : cap = k + 1
    · omega
    · rw [if_neg hc] at hA
      obtain rfl := Option.some.inj hA
      rw [Addr.add_lit]
      exact own_cell ho hj
  have HLN : Hid ((ys.drop (k + 1)).length = (n - (k + 1)) * 1) := by unfold Hid; rw [List.length_drop]; omega
  have HONE : Hid (∀ u ∈ ys.drop (k + 1), u.oneCell' = true) := fun u hu => h1 u (List.mem_of_mem_drop hu)
  have HER : Hid (ys.eraseIdx k = ys.take k ++ ys.drop (k + 1)) := List.eraseIdx_eq_take_drop_succ ..
  obtain ⟨A, hA⟩ : ∃ A, (if cap = k + 1 then (some ⟨g, 0, none⟩ : Option Addr) else some ⟨g, k + 1, none⟩) = some A := by
    by_cases hc : cap = k + 1
    · exact ⟨_, if_pos hc⟩
    · exact ⟨_, if_neg hc⟩
  have HC := Lib.hid (HSRC.out A hA)
  unfold maxLen at hcm
  have hkc : k ≤ cap := by omega
  have hkc1 : k + 1 ≤ cap := by omega
  have hi1 : (0 : Int) ≤ (k : Int) + 1 := by omega
  have hi2 : (k : Int) + 1 ≤ (n : Int) := by omega
  clear ho h1 hlen HSRC
  go_enter Try.func47, Try.ntmps47
  go_wp2_with fail
  go_region_law (refine step_fits 69 73 (.pointer none) 8 Try.underlying69 infoPc rfl _ _ rfl w.drew g k cap (ys.take k) A (n - (k + 1)) (cap - (k + 1)) (ys.drop (k + 1)) HPRE.out HLN.out HC.out HONE.out (by omega) (by simp [Act.eval, Act.put]) (by simp [Act.eval, Act.put]) ?_; intro w5 ho5 hg5; have HO5 := Lib.hid ho5; have HG5 := Lib.hid hg5; clear ho5 hg5)
  have hnK : n = k + (n - (k + 1)) + 1 := by omega
  have HEND : Hid (n - 1 = k + (n - (k + 1))) := by unfold Hid; omega
  generalize k + (n - (k + 1)) = K at *
  have HK := Lib.hid hnK
  have hsz : n - K = 1 := by omega
  have hKc : K ≤ cap := by omega
  have hi3 : (0 : Int) ≤ (K : Int) := by omega
  have hi4 : (K : Int) ≤ (n : Int) := by omega
  clear hnK
  have hcl : ∀ ty, (Builtin.clear_ #[69] ty #[.slice (some ⟨g, K, none⟩) (n - K) (cap - K)]).run Try.prog w5 = .ok (.tuple #[]) (w5.setCells g K (List.replicate (n - K) (.pointer none))) := fun ty =>
    Lib.run_clear_slice w5 _ _ ty _ Try.underlying69 zeroPc rfl rfl g K _ _ (by omega) (fun j hj => own_isSome HO5.out (by omega)) (fun j _ => own_frozen HO5.out _)
  rw [hsz] at hcl
  have HFIN : Hid ((w5.setCells g K (List.replicate 1 (.pointer none))).ownsRow 0 73 1 (.slice (some ⟨g, 0, none⟩) K cap) K (ys.eraseIdx k) ∧ Only g w (w5.setCells g K (List.replicate 1 (.pointer none)))) := by
    have e : w5.setCells g K (List.replicate 1 (.pointer none)) = w5.setCell ⟨g, K, none⟩ (.pointer none) := by
      simp [World.setCells]
    unfold Hid
    rw [e, HER.out]
    refine ⟨own_beyond HO5.out K _ (Nat.le_refl _), ?_⟩
    have h1 : Only g w w5 := Only.trans (Only.of_below (Below.refl _ _).drew) HG5.out
    exact h1.trans (Only.setCell _ _ _ _)
  go_wp2_with fail
  go_ret
  rw [HEND.out]
  exact ⟨rfl, HFIN.out⟩

theorem idx_erase (xs : List Nat) (i : Nat) (h : i ∈ xs) : xs.eraseIdx (xs.idxOf i) = xs.erase i := (List.erase_eq_eraseIdx_of_idxOf rfl).symm
theorem app_of_only {g n n' cap : Nat} {w' : World} (h : Only g w w') : App 0 w w' (.slice (some ⟨g, 0, none⟩) n cap) (.slice (some ⟨g, 0, none⟩) n' cap) :=
  ⟨h.below' (Nat.zero_le _) (Nat.zero_le _), fun k hk hne => h.block k hk hne, .inl rfl⟩

set_option maxRecDepth 8000 in
set_option maxHeartbeats 4000000 in
theorem mwithout_any (v : Value) (xs : List Nat) (i : Nat) (ho : w.ownsRow 0 73 1 v xs.length (xs.map (ptrC L))) (hinj : ∀ x ∈ xs, L.cb x = L.cb i → x = i) (hbl : ∀ x, x ∈ xs ∨ x = i → ∃ cs T, w.heap[L.cb x]? = some (.cells cs T (0, 0))) (hn : xs.length ≤ 1000000000) :
    Calls Try.prog 58 #[v, ptrC L i] w fun e w' => ∃ v', e = .returned v' ∧ App 0 w w' v v' ∧ w'.ownsRow 0 73 1 v' (xs.erase i).length ((xs.erase i).map (ptrC L)) := by
  have HI := Lib.hid (mindex_any v xs i ho hinj hbl hn)
  have HO := Lib.hid ho
  clear hinj hbl
  by_cases hm : i ∈ xs
  · have HE : Hid (idxM xs i = (xs.idxOf i : Int)) := if_pos hm
    rw [HE.out] at HI
    have hlt : xs.idxOf i < xs.length := List.idxOf_lt_length_of_mem hm
    have HER := Lib.hid (idx_erase xs i hm)
    have HLE := Lib.hid (List.length_erase_of_mem hm)
    obtain ⟨g, cap, rfl⟩ := own_at ho (by omega)
    generalize xs.idxOf i = k at *
    have HD := Lib.hid (mdelete_any g xs.length cap _ k ho (fun u hu => by obtain ⟨y, _, rfl⟩ := List.mem_map.1 hu; rfl) hlt)
    clear ho hm
    generalize hN : xs.length = N at *
    clear hN HO
    have hk0 : decide ((0 : Int) ≤ (k : Int)) = true := decide_eq_true (by omega)
    go_enter Try.func58, Try.ntmps58
    go_wp2_with fail
    refine HI.out.mono ?_
    rintro e w2 ⟨rfl, rfl⟩
    go_wp2_with fail
    refine HD.out.mono ?_
    rintro e w3 ⟨rfl, ho3, hg3⟩
    have HF : Hid (App 0 w2 w3 (.slice (some ⟨g, 0, none⟩) N cap) (.slice (some ⟨g, 0, none⟩) (N - 1) cap) ∧ w3.ownsRow 0 73 1 (.slice (some ⟨g, 0, none⟩) (N - 1) cap) (xs.erase i).length ((xs.erase i).map (ptrC L))) := by
      refine ⟨app_of_only hg3, ?_⟩
      rw [HLE.out, ← HER.out, show (xs.eraseIdx k).map (ptrC L) = (xs.map (ptrC L)).eraseIdx k by simp [List.eraseIdx_eq_take_drop_succ]]
      exact ho3
    clear ho3 hg3
    go_wp2_with fail
    go_ret
    exact ⟨_, rfl, HF.out⟩
  · have HE : Hid (idxM xs i = -1) := if_neg hm
    rw [HE.out] at HI
    have HER := Lib.hid (List.erase_of_not_mem hm)
    obtain ⟨sa, sc, rfl, _⟩ := own_shape ho
    clear ho hm
    go_enter Try.func58, Try.ntmps58
    go_wp2_with fail
    refine HI.out.mono ?_
    rintro e w2 ⟨rfl, rfl⟩
    go_wp2_with fail
    go_ret
    exact ⟨_, rfl, App.refl _, by rw [HER.out]; exact HO.out⟩

end
end Go.Proofs.Ytmlgpnaikdpifaa

namespace Go.Proofs.Ytmlgpnaikdpifaa
open Go.RowKit

/-- i is told by l no more, and late no more. -/
def eraseM (m : Mc) (i : Nat) (l : Int) : Mc := { m with wt := upd m.wt (wx l) ((m.wt (wx l)).erase i), lt := upd m.lt (plc l) ((m.lt (plc l)).erase i) }
def unwM (m : Mc) (i : Nat) (c : List Int) : Mc := (c.take 2).foldl (fun m l => eraseM m i l) m
/-- All that the lists name is there, and they are short. -/
structure Lst (m : Mc) : Prop where
  wt : ∀ j x, x ∈ m.wt j → ∃ c, m.cl x = some c
  lt : ∀ v x, x ∈ m.lt v → ∃ c, m.cl x = some c
  wl : ∀ j, (m.wt j).length ≤ 1000000000
  ll : ∀ v, (m.lt v).length ≤ 1000000000
theorem Lst.erase {m : Mc} (h : Lst m) (i : Nat) (l : Int) : Lst (eraseM m i l) where
  wt := fun j x hx => by
    have hx' : x ∈ upd m.wt (wx l) ((m.wt (wx l)).erase i) j := hx
    unfold upd at hx'
    split at hx'
    · exact h.wt _ x (List.mem_of_mem_erase hx')
    · exact h.wt _ x hx'
  lt := fun j x hx => by
    have hx' : x ∈ upd m.lt (plc l) ((m.lt (plc l)).erase i) j := hx
    unfold upd at hx'
    split at hx'
    · exact h.lt _ x (List.mem_of_mem_erase hx')
    · exact h.lt _ x hx'
  wl := fun j => by
    show (upd m.wt (wx l) ((m.wt (wx l)).erase i) j).length ≤ _
    unfold upd
    split
    · exact Nat.le_trans (List.length_erase_le) (h.wl _)
    · exact h.wl j
  ll := fun j => by
    show (upd m.lt (plc l) ((m.lt (plc l)).erase i) j).length ≤ _
    unfold upd
    split
    · exact Nat.le_trans (List.length_erase_le) (h.ll _)
    · exact h.ll j
theorem eraseM_cl (m : Mc) (i : Nat) (l : Int) : (eraseM m i l).cl = m.cl := rfl
theorem fold_cl (i : Nat) : ∀ (c : List Int) (m : Mc), (c.foldl (fun m l => eraseM m i l) m).cl = m.cl ∧ (c.foldl (fun m l => eraseM m i l) m).n = m.n
  | [], _ => ⟨rfl, rfl⟩
  | l :: c, m => fold_cl i c (eraseM m i l)
theorem fold_lst (i : Nat) : ∀ (c : List Int) (m : Mc), Lst m → Lst (c.foldl (fun m l => eraseM m i l) m)
  | [], _, h => h
  | l :: c, m, h => fold_lst i c (eraseM m i l) (h.erase i l)
theorem fold_snoc (i : Nat) (c : List Int) (k : Nat) (hk : k < c.length) (m : Mc) : (c.take (k + 1)).foldl (fun m l => eraseM m i l) m = eraseM ((c.take k).foldl (fun m l => eraseM m i l) m) i (c.getD k 0) := by
  rw [List.take_succ_eq_append_getElem hk, List.foldl_append]
  simp [List.getD, hk]

section
variable {w : World} {ρ : Nat → Option Rl} {L : Lay} {m : Mc}
theorem MA.inj (h : MA w ρ L m) {x i : Nat} {c d : List Int} (hx : m.cl x = some c) (hi : m.cl i = some d) (e : L.cb x = L.cb i) : x = i := by
  have h1 := (h.at' (.c x) c hx).1
  have h2 := (h.at' (.c i) d hi).1
  rw [e, h2] at h1
  injection h1 with h1
  injection h1 with h1
  exact h1.symm
theorem MA.blk (h : MA w ρ L m) {x : Nat} {c : List Int} (hx : m.cl x = some c) : ∃ cs T, w.heap[L.cb x]? = some (.cells cs T (0, 0)) := ⟨_, _, (h.at' (.c x) c hx).2⟩
theorem MA.own_w (h : MA w ρ L m) (j : Nat) : w.ownsRow 0 73 1 (L.wv j) (m.wt j).length ((m.wt j).map (ptrC L)) := by
  have := (h.at' (.w j)).1
  rwa [List.length_map] at this
theorem MA.own_l (h : MA w ρ L m) (j : Nat) : w.ownsRow 0 73 1 (L.lw j) (m.lt j).length ((m.lt j).map (ptrC L)) := by
  have := (h.at' (.l j)).1
  rwa [List.length_map] at this
theorem MA.own_td (h : MA w ρ L m) : w.ownsRow 0 73 1 L.tdv m.td.length (m.td.map (ptrC L)) := by
  have := (h.at' .td).1
  rwa [List.length_map] at this
/-- Of its layout these stay. -/
structure LayE (L L' : Lay) : Prop where
  p : L'.p = L.p
  cb : L'.cb = L.cb
  cv : L'.cv = L.cv
  vb : L'.vb = L.vb
theorem LayE.refl (L : Lay) : LayE L L := ⟨rfl, rfl, rfl, rfl⟩
theorem LayE.trans {L1 L2 L3 : Lay} (h : LayE L1 L2) (k : LayE L2 L3) : LayE L1 L3 := ⟨k.p.trans h.p, k.cb.trans h.cb, k.cv.trans h.cv, k.vb.trans h.vb⟩
/-- The trail's and the levels' rows, too. -/
structure LayU (L L' : Lay) : Prop extends LayE L L' where
  trv : L'.trv = L.trv
  stv : L'.stv = L.stv
theorem LayU.refl (L : Lay) : LayU L L := ⟨LayE.refl L, rfl, rfl⟩
theorem LayU.trans {L1 L2 L3 : Lay} (h : LayU L1 L2) (k : LayU L2 L3) : LayU L1 L3 := ⟨h.toLayE.trans k.toLayE, k.trv.trans h.trv, k.stv.trans h.stv⟩
theorem LayE.ptr {L L' : Lay} (h : LayE L L') (i : Nat) : ptrC L' i = ptrC L i := by unfold ptrC; rw [h.cb]

set_option maxRecDepth 8000 in
set_option maxHeartbeats 8000000 in
theorem munw_any (h : MA w ρ L m) (i : Nat) (c : List Int) (hc : m.cl i = some c) (hl : ∀ x ∈ c, plc x ≤ m.n) (hn : m.n ≤ 4000) (hcl : c.length ≤ 1000000) (hL : Lst m) :
    Calls Try.prog 59 #[ptrP L, ptrC L i] w fun e w' => e = .returned (.tuple #[]) ∧ ∃ ρ', Chr ρ w ρ' w' ∧ ∃ L', LayU L L' ∧ MA w' ρ' L' (unwM m i c) := by
  have HA := Lib.hid h
  have HCI := Lib.hid hc
  have HLI := Lib.hid hl
  have HLS := Lib.hid hL
  obtain ⟨sa, sc, hsh, hs1, hs2⟩ := own_shape (h.lit hc)
  have q1 := (h.cells hc).2
  rw [hsh] at q1
  have HSH := Lib.hid hsh
  unfold maxLen at hs2
  clear h hc hl hL hsh
  obtain ⟨M, hM⟩ : ∃ M, (c.take 2).length = M := ⟨_, rfl⟩
  have HM := Lib.hid hM
  rw [List.length_take] at hM
  unfold ptrP
  have HPC : Hid (ptrC L i = .pointer (some ⟨L.cb i, 0, none⟩)) := rfl
  rw [HPC.out]
  generalize hN : c.length = N at *
  have HN := Lib.hid hN
  clear hN
  go_enter Try.func59, Try.ntmps59
  go_wp2_with fail
  go_cut [18, 19, 20] (fun s z k W => s = .slice sa M sc ∧ z = .int .i64 (M : Int) ∧ k = .int .i64 0 ∧ ∃ t, W = w.drewN t)
  case first =>
    rcases (show N = 0 ∨ N = 1 ∨ N = 2 ∨ 2 < N by omega) with e | e | e | e
    · subst e
      obtain rfl : M = 0 := by omega
      go_region
      go_wp2_with fail
      go_meet
      exact ⟨rfl, rfl, rfl, 1, rfl⟩
    · subst e
      obtain rfl : M = 1 := by omega
      go_region
      go_wp2_with fail
      go_meet
      exact ⟨rfl, rfl, rfl, 1, rfl⟩
    · subst e
      obtain rfl : M = 2 := by omega
      go_region
      go_wp2_with fail
      go_meet
      exact ⟨rfl, rfl, rfl, 1, rfl⟩
    · obtain rfl : M = 2 := by omega
      have e2 : ¬ N < 2 := by omega
      have e3 : 2 ≤ sc := by omega
      have e4 : (2 : Int) < (N : Int) := by omega
      have e5 : ¬ (N : Int) < 2 := by omega
      clear hM
      go_region
      go_wp2_with fail
      go_meet
      exact ⟨rfl, rfl, rfl, 1, rfl⟩
  case rest =>
    obtain ⟨rfl, rfl, rfl, t0, rfl⟩ := hcut
    have HM0 := Lib.hid (HA.out.drewN t0)
    have HMN : Hid (M ≤ N) := by unfold Hid; omega
    have HM2 : Hid (M ≤ 2) := by unfold Hid; omega
    have HTK : Hid (∀ k, k ≤ M → c.take k = (c.take 2).take k) := fun k hk => by rw [List.take_take, Nat.min_eq_left (by have := HM2.out; omega)]
    clear hM
    go_wp2_with fail
    go_loopw [5, 6, 7, 20] (fun _ _ _ u20 wr => ∃ (k : Nat) (ρ' : Nat → Option Rl) (L' : Lay), k ≤ M ∧ u20 = .int .i64 (k : Int) ∧ Chr ρ w ρ' wr ∧ LayU L L' ∧ MA wr ρ' L' ((c.take k).foldl (fun m l => eraseM m i l) m)) (fun _ _ _ u20 _ => M - (intOf u20).toNat)
    case atStart => exact ⟨0, ρ, L, Nat.zero_le _, rfl, (Chr.refl _ _).drewN _, LayU.refl _, HM0.out⟩
    case round =>
      obtain ⟨k, ρ1, L1, hk1, rfl, hC, hE, hM⟩ := hrel
      have HC := Lib.hid hC
      have HE := Lib.hid hE
      by_cases hk : k < M
      · have hkN : k < N := by have := HMN.out; omega
        have hkc : k < c.length := by rw [HN.out]; exact hkN
        obtain ⟨ecl, en⟩ := fold_cl i (c.take k) m
        have hci : ((c.take k).foldl (fun m l => eraseM m i l) m).cl i = some c := by rw [ecl]; exact HCI.out
        obtain ⟨g, kc, e, _, hcell, _, _, _⟩ := hM.lits hci (by omega)
        rw [hE.cv, HSH.out] at e
        injection e with e1 _ e3
        subst e1; subst e3
        have x1 := hcell k (c.getD k 0) (by simp [List.getD, hkc])
        have hpl : plc (c.getD k 0) ≤ m.n := HLI.out _ (by rw [show c.getD k 0 = c[k] by simp [List.getD, hkc]]; exact List.getElem_mem hkc)
        have HPL : Hid (plc (c.getD k 0) ≤ ((c.take k).foldl (fun m l => eraseM m i l) m).n) := by unfold Hid; rw [en]; exact hpl
        have hn1 : ((c.take k).foldl (fun m l => eraseM m i l) m).n ≤ 4000 := by rw [en]; exact hn
        have HFS := Lib.hid (fold_snoc i c k hkc m)
        have HLS1 := Lib.hid (fold_lst i (c.take k) m HLS.out)
        have HCI1 := Lib.hid hci
        have HM1 := Lib.hid hM
        have HN1 := Lib.hid hn1
        have HW := Lib.hid (mwat_any hM (c.getD k 0) HPL.out hn1)
        unfold ptrP at HW
        rw [hE.p] at HW
        clear hM hcell hci hn1 hpl en ecl hkc hE hC
        generalize (c.take k).foldl (fun m l => eraseM m i l) m = m1 at *
        generalize c.getD k 0 = y at *
        go_wp2_with fail
        refine HW.out.mono ?_
        rintro e w1 ⟨rfl, t, rfl⟩
        rw [← wx_cell]
        have HMD := Lib.hid (HM1.out.drewN t)
        have hj : wx y / 2 ≤ m1.n := by rw [wx_half]; exact HPL.out
        have HJ := Lib.hid hj
        have c3 : (wr.drewN t).cell? ⟨L1.vb, wx y / 2 * 5 + (2 + wx y % 2), none⟩ = some (L1.wv (wx y)) := by
          obtain ⟨_, _, _, h3, _⟩ := HMD.out.wApp hj (App.refl _) (HMD.out.own_w (wx y))
          exact h3
        have HWO := Lib.hid (mwithout_any (L1.wv (wx y)) (m1.wt (wx y)) i (HMD.out.own_w (wx y)) (fun x hx e => by
          obtain ⟨d, hd⟩ := HLS1.out.wt _ x hx
          exact HMD.out.inj hd HCI1.out e) (fun x hx => by
          rcases hx with hx | rfl
          · obtain ⟨d, hd⟩ := HLS1.out.wt _ x hx
            exact HMD.out.blk hd
          · exact HMD.out.blk HCI1.out) (HLS1.out.wl _))
        rw [HE.out.ptr, HPC.out] at HWO
        clear HW hj
        generalize hX : wx y / 2 * 5 + (2 + wx y % 2) = X at *
        have HX := Lib.hid hX
        clear hX
        go_wp2_with fail
        refine HWO.out.mono ?_
        rintro e w3 ⟨v3, rfl, hap3, ho3⟩
        obtain ⟨a3, k3, rfl, _⟩ := own_shape ho3
        obtain ⟨ρ3, hM3, hC3, c4, f4⟩ := HMD.out.wApp HJ.out hap3 ho3
        rw [HX.out] at hM3 hC3 c4 f4
        have HM3 := Lib.hid hM3
        have HC3 := Lib.hid ((HC.out.drewN t).trans hC3)
        have HO3 := Lib.hid (mof_any hM3 y HPL.out HN1.out)
        unfold ptrP at HO3
        have HP1 : Hid (∀ v, ({ L1 with wv := v } : Lay).p = L.p) := fun _ => HE.out.p
        rw [HP1.out] at HO3
        clear hM3 hC3 hap3 ho3 HWO c3
        go_wp2_with fail
        refine HO3.out.mono ?_
        rintro e w5 ⟨rfl, t5, rfl⟩
        have HMD5 := Lib.hid (HM3.out.drewN t5)
        have c5 := HMD5.out.var (v := plc y) (k := 4) HPL.out (by omega)
        have c6 : ((w3.setCell ⟨L1.vb, X, none⟩ (.slice a3 ((m1.wt (wx y)).erase i).length k3)).drewN t5).cell? ⟨L1.vb, plc y * 5 + 4, none⟩ = some (L1.lw (plc y)) := c5
        have HWO5 := Lib.hid (mwithout_any (L1.lw (plc y)) (m1.lt (plc y)) i (HMD5.out.own_l (plc y)) (fun x hx e => by
          obtain ⟨d, hd⟩ := HLS1.out.lt _ x hx
          exact HMD5.out.inj hd HCI1.out e) (fun x hx => by
          rcases hx with hx | rfl
          · obtain ⟨d, hd⟩ := HLS1.out.lt _ x hx
            exact HMD5.out.blk hd
          · exact HMD5.out.blk HCI1.out) (HLS1.out.ll _))
        have HPT : Hid (∀ v, ptrC { L1 with wv := v } i = .pointer (some ⟨L.cb i, 0, none⟩)) := fun v => by
          show Value.pointer (some ⟨L1.cb i, 0, none⟩) = _
          rw [HE.out.cb]
        rw [HPT.out] at HWO5
        clear c5 c4 f4
        go_wp2_with fail
        refine HWO5.out.mono ?_
        rintro e w6 ⟨v6, rfl, hap6, ho6⟩
        obtain ⟨a6, k6, rfl, _⟩ := own_shape ho6
        obtain ⟨ρ6, hM6, hC6, c7, f7⟩ := HMD5.out.lApp HPL.out hap6 ho6
        have HM6 := Lib.hid hM6
        have HC6 := Lib.hid ((HC3.out.drewN t5).trans hC6)
        clear hM6 hC6 hap6 ho6 c6
        go_wp2_with fail
        go_roundw
        case rel =>
          refine ⟨k + 1, ρ6, _, by omega, by go_num, HC6.out, ?_, by rw [HFS.out]; exact HM6.out⟩
          exact HE.out.trans ⟨⟨rfl, rfl, rfl, rfl⟩, rfl, rfl⟩
        case measure => go_light; simp [intOf]; omega
      · have hd : ¬ k < M := hk
        have hkM : k = M := by omega
        have HF : Hid (MA wr ρ1 L1 (unwM m i c)) := by
          unfold Hid unwM
          rw [hkM] at hM
          rw [HTK.out M (Nat.le_refl _), List.take_of_length_le (by rw [HM.out]; exact Nat.le_refl _)] at hM
          exact hM
        clear hM hkM hk hC hE
        go_wp2_with fail
        (try simp only [Exit.inBlock, Exit.then])
        refine bodyPost_end (results_none rfl _ _ _) rfl ?_
        exact ⟨rfl, ρ1, HC.out, L1, HE.out, HF.out⟩

end
end Go.Proofs.Ytmlgpnaikdpifaa

namespace Go.Proofs.Ytmlgpnaikdpifaa
open Go.RowKit

def unwA (m : Mc) (xs : List Nat) : Mc := xs.foldl (fun m i => unwM m i ((m.cl i).getD [])) m
def looM (m : Mc) (xs : List Nat) : Mc := { unwA m xs with td := m.td ++ xs }
theorem unwM_keep (m : Mc) (i : Nat) (c : List Int) : (unwM m i c).cl = m.cl ∧ (unwM m i c).n = m.n := fold_cl i _ m
theorem fold_td (i : Nat) : ∀ (c : List Int) (m : Mc), (c.foldl (fun m l => eraseM m i l) m).td = m.td
  | [], _ => rfl
  | l :: c, m => fold_td i c (eraseM m i l)
theorem unwA_keep : ∀ (xs : List Nat) (m : Mc), (unwA m xs).cl = m.cl ∧ (unwA m xs).n = m.n ∧ (unwA m xs).td = m.td
  | [], _ => ⟨rfl, rfl, rfl⟩
  | i :: xs, m => by
    obtain ⟨h1, h2, h3⟩ := unwA_keep xs (unwM m i ((m.cl i).getD []))
    obtain ⟨k1, k2⟩ := unwM_keep m i ((m.cl i).getD [])
    exact ⟨h1.trans k1, h2.trans k2, h3.trans (fold_td i _ m)⟩
theorem unwA_lst : ∀ (xs : List Nat) (m : Mc), Lst m → Lst (unwA m xs)
  | [], _, h => h
  | i :: xs, m, h => unwA_lst xs _ (fold_lst i _ m h)
theorem unwA_snoc (m : Mc) (xs : List Nat) (k : Nat) (hk : k < xs.length) : unwA m (xs.take (k + 1)) = unwM (unwA m (xs.take k)) (xs.getD k 0) (((unwA m (xs.take k)).cl (xs.getD k 0)).getD []) := by
  unfold unwA
  rw [List.take_succ_eq_append_getElem hk, List.foldl_append]
  simp [List.getD, hk]
/-- A row of clauses beside the prop. -/
def LocR (ρ : Nat → Option Rl) (w : World) (L : Lay) (v : Value) (xs : List Nat) : Prop := w.ownsRow 0 73 1 v xs.length (xs.map (ptrC L)) ∧ ∀ k, v.ownBlock = some k → ρ k = none
section
variable {w w' : World} {ρ ρ' : Nat → Option Rl} {L L' : Lay} {m : Mc}
theorem LocR.keep {v : Value} {xs : List Nat} (h : LocR ρ w L v xs) (hc : Chr ρ w ρ' w') : LocR ρ' w' L v xs := by
  obtain ⟨⟨h1, h2⟩, h3⟩ := h
  rcases h2 with h2 | ⟨g, cap, cur, hv, hg, hh, q⟩
  · exact ⟨⟨h1, .inl h2⟩, fun k hk => by rw [h2.1] at hk; cases hk⟩
  · have hr := h3 g (by rw [hv]; rfl)
    have hlt : g < w.heap.size := by
      rcases Nat.lt_or_ge g w.heap.size with h' | h'
      · exact h'
      · rw [Array.getElem?_eq_none h'] at hh; cases hh
    refine ⟨⟨h1, .inr ⟨g, cap, cur, hv, hg, (hc.block g hlt hr).trans hh, q⟩⟩, fun k hk => ?_⟩
    rw [hv] at hk
    obtain rfl : g = k := by simpa [Value.ownBlock] using hk
    exact hc.old g hlt hr
theorem LocR.lay {v : Value} {xs : List Nat} (h : LocR ρ w L v xs) (he : LayE L L') : LocR ρ w L' v xs := by
  have : ptrC L' = ptrC L := funext fun i => he.ptr i
  unfold LocR
  rw [this]; exact h

set_option maxRecDepth 8000 in
set_option maxHeartbeats 8000000 in
theorem mloo_any (h : MA w ρ L m) (v : Value) (xs : List Nat) (hv : LocR ρ w L v xs) (hx : ∀ x ∈ xs, ∃ c, m.cl x = some c) (hl : ∀ x c, m.cl x = some c → (∀ l ∈ c, plc l ≤ m.n) ∧ c.length ≤ 1000000) (hn : m.n ≤ 4000) (hL : Lst m) (hxs : xs.length ≤ 1000000000) (htd : m.td.length ≤ 1000000000) :
    Calls Try.prog 56 #[ptrP L, v] w fun e w' => e = .returned (.tuple #[]) ∧ ∃ ρ', Chr ρ w ρ' w' ∧ ∃ L', LayU L L' ∧ MA w' ρ' L' (looM m xs) := by
  have HA := Lib.hid h
  have HV := Lib.hid hv
  have HX := Lib.hid hx
  have HL := Lib.hid hl
  have HLS := Lib.hid hL
  obtain ⟨sa, sc, rfl, _⟩ := own_shape hv.1
  clear h hv hx hl hL
  unfold ptrP
  generalize hN : xs.length = N at *
  have HN := Lib.hid hN
  clear hN
  go_enter Try.func56, Try.ntmps56
  go_wp2_with fail
  go_loopw [5, 8] (fun _ u8 wr => ∃ (k : Nat) (ρ' : Nat → Option Rl) (L' : Lay), k ≤ N ∧ u8 = .int .i64 (k : Int) ∧ Chr ρ w ρ' wr ∧ LayU L L' ∧ MA wr ρ' L' (unwA m (xs.take k))) (fun _ u8 _ => N - (intOf u8).toNat)
  case atStart => exact ⟨0, ρ, L, Nat.zero_le _, rfl, Chr.refl _ _, LayU.refl _, HA.out⟩
  case round =>
    obtain ⟨k, ρ1, L1, hk1, rfl, hC, hE, hM⟩ := hrel
    have HC := Lib.hid hC
    have HE := Lib.hid hE
    have hloc := HV.out.keep hC
    by_cases hk : k < N
    · have hkx : k < xs.length := by rw [HN.out]; exact hk
      obtain ⟨g, cap, e⟩ := own_at hloc.1 (by omega)
      rw [HN.out] at e
      injection e with e1 _ e3
      subst e1; subst e3
      have ho := hloc.1
      rw [HN.out] at ho
      have x1 := own_cell ho (i := k) (u := ptrC L (xs.getD k 0)) (by rw [List.getElem?_map]; simp [List.getD, hkx])
      obtain ⟨ecl, en, _⟩ := unwA_keep (xs.take k) m
      have HS := Lib.hid (unwA_snoc m xs k hkx)
      obtain ⟨c, hc⟩ := HX.out (xs.getD k 0) (by rw [show xs.getD k 0 = xs[k] by simp [List.getD, hkx]]; exact List.getElem_mem hkx)
      have hc1 : (unwA m (xs.take k)).cl (xs.getD k 0) = some c := by rw [ecl]; exact hc
      rw [hc1, Option.getD_some] at HS
      have HU := Lib.hid (munw_any hM (xs.getD k 0) c hc1 (by rw [en]; exact (HL.out _ _ hc).1) (by rw [en]; exact hn) (HL.out _ _ hc).2 (unwA_lst _ _ HLS.out))
      unfold ptrP at HU
      rw [hE.p, hE.ptr] at HU
      have HPC : Hid (ptrC L (xs.getD k 0) = .pointer (some ⟨L.cb (xs.getD k 0), 0, none⟩)) := rfl
      rw [HPC.out] at x1 HU
      clear hC hE hM hloc ho ecl en hc hc1 hkx
      generalize L.cb (xs.getD k 0) = b at *
      go_wp2_with fail
      refine HU.out.mono ?_
      rintro e w2 ⟨rfl, ρ2, hC2, L2, hE2, hM2⟩
      rw [← HS.out] at hM2
      have HC2 := Lib.hid (HC.out.trans hC2)
      have HE2 := Lib.hid (HE.out.trans hE2)
      have HM2 := Lib.hid hM2
      clear hC2 hE2 hM2 HU
      go_wp2_with fail
      go_roundw
      case rel => exact ⟨k + 1, ρ2, L2, by omega, by go_num, HC2.out, HE2.out, HM2.out⟩
      case measure => go_light; simp [intOf]; omega
    · have hd : ¬ k < N := hk
      have hkN : k = N := by omega
      rw [hkN, ← HN.out, List.take_of_length_le (Nat.le_refl _)] at hM
      obtain ⟨_, _, etd⟩ := unwA_keep xs m
      have HLOC := Lib.hid hloc.1
      have c7 := hM.pc.c7
      rw [hE.p] at c7
      have htd1 := hM.own_td
      have hpf : ptrC L1 = ptrC L := funext fun i => hE.ptr i
      rw [etd] at htd1
      have HM := Lib.hid hM
      have HTD := Lib.hid htd1
      have HPF := Lib.hid hpf
      have HETD := Lib.hid etd
      clear hM hkN hk hC htd1 etd hloc hpf
      have hcs : Hid (xs.length = 0 ∨ ∃ ad, sa = some ad ∧ ∀ j u, (xs.map (ptrC L))[j]? = some u → wr.cell? (ad.add j) = some u) := by
        rcases HLOC.out.2 with ⟨e0, e1⟩ | ⟨g, cap, cur, e0, _⟩
        · exact .inl e1
        · injection e0 with e1 _ e3
          refine .inr ⟨_, e1, fun j u hj => ?_⟩
          subst e1
          exact HLOC.out.cells (g := g) rfl j u hj
      go_wp2_with (at_builtin; refine wpList_appC 69 73 (.pointer none) 1 8 Try.underlying69 infoPc rfl (by decide) (by decide) rfl _ _ rfl wr 0 L1.tdv m.td.length _ sa N sc (xs.map (ptrC L)) HTD.out (Nat.zero_le _) (by omega) (by rw [List.length_map, HN.out, Nat.mul_one]) (by rw [← HN.out]; exact hcs.out) (fun u hu => by obtain ⟨y, _, rfl⟩ := List.mem_map.1 hu; rfl) rfl rfl ?_; intro v5 w5 hown5 hap5; obtain ⟨a5, k5, rfl, _⟩ := own_shape hown5; rw [← HPF.out, ← List.map_append] at hown5; obtain ⟨ρ5, hM5, hC5, c5, f5⟩ := HM.out.tdApp hap5 hown5; rw [HE.out.p] at hM5 hC5 c5 f5; have HM5 := Lib.hid hM5; have HC5 := Lib.hid hC5; clear hM5 hC5 hown5 hap5)
      (try simp only [Exit.inBlock, Exit.then])
      refine bodyPost_end (results_none rfl _ _ _) rfl ?_
      refine ⟨rfl, ρ5, HC.out.trans HC5.out, _, ?_, HM5.out⟩
      exact ⟨⟨rfl, HE.out.cb, HE.out.cv, HE.out.vb⟩, HE.out.trv, HE.out.stv⟩

end
end Go.Proofs.Ytmlgpnaikdpifaa

namespace Go.Proofs.Ytmlgpnaikdpifaa
open Go.RowKit

section
variable {m : Mc}
/-! ### Another order -/
theorem McW.putCl (h : McW m) {i : Nat} {c c' : List Int} (hc : m.cl i = some c) (hp : c'.Perm c) (hr : (∀ v, m.rs v ≠ some i) ∨ c'.head? = c.head?) : McW (putCl m i c') where
  n := h.n
  vl := h.vl
  vv := h.vv
  tv := h.tv
  one := h.one
  told := h.told
  sorted := h.sorted
  lt := h.lt
  lvl := h.lvl
  mps := fun j => by
    show m.mp j = (upd m.cl i (some c') j).isSome
    unfold upd
    split
    · rename_i e; rw [h.mps, e, hc]; rfl
    · exact h.mps j
  cls := fun j d hd => by
    have hd' : upd m.cl i (some c') j = some d := hd
    unfold upd at hd'
    split at hd'
    · rename_i e
      injection hd' with e2
      subst e; subst e2
      obtain ⟨h1, h2, h3⟩ := h.cls j c hc
      exact ⟨h1, hp.nodup_iff.2 h2, fun l hl => ⟨(h3 l (hp.mem_iff.1 hl)).1, fun hm => (h3 l (hp.mem_iff.1 hl)).2 (hp.mem_iff.1 hm)⟩⟩
    · exact h.cls j d hd'
  rs0 := h.rs0
  dec := h.dec
  rsn := fun p hp1 hp2 => by
    obtain ⟨k, c0, h1, h2, h3⟩ := h.rsn p hp1 hp2
    by_cases e : k = i
    · subst e
      rw [hc] at h2
      injection h2 with h2
      subst h2
      rcases hr with hr | hr
      · exact absurd h1 (hr _)
      · cases c' with
        | nil => simp at hr
        | cons a r =>
          have ea : a = m.tr.getD p 0 := by simpa using hr
          subst ea
          refine ⟨k, r, h1, upd_same _ _ _, fun l hl => h3 l ?_⟩
          exact (List.perm_cons _).1 hp |>.mem_iff.1 hl
    · exact ⟨k, c0, h1, (upd_ne _ _ e).trans h2, h3⟩
theorem Sm.putCl {t i j : Nat} {c : List Int} (h : Sm m t j) (hne : j ≠ i) : Sm (putCl m i c) t j := fun d hd => h d ((upd_ne m.cl (some c) hne).symm.trans hd)
/-- A clause that is not watched lies in another order. -/
theorem McL.putF {F : Nat → Prop} (h : McL m F) {i : Nat} {c c' : List Int} (hc : m.cl i = some c) (hF : F i) : McL (putCl m i c') F where
  tdn := h.tdn
  tdF := fun j hj => by
    obtain ⟨h1, d, h2⟩ := h.tdF j hj
    refine ⟨h1, ?_⟩
    by_cases e : j = i
    · subst e; exact ⟨c', upd_same _ _ _⟩
    · exact ⟨d, (upd_ne _ _ e).trans h2⟩
  ltN := h.ltN
  ltc := fun v j hj => by
    obtain ⟨h1, a, r, h2, h3⟩ := h.ltc v j hj
    exact ⟨h1, a, r, (upd_ne _ _ (fun e => h1 (by rw [e]; exact hF))).trans h2, h3⟩
  wtN := h.wtN
  wtc := fun v j hj => by
    obtain ⟨h1, a, b, r, h2, h3⟩ := h.wtc v j hj
    exact ⟨h1, a, b, r, (upd_ne _ _ (fun e => h1 (by rw [e]; exact hF))).trans h2, h3⟩
  wtd := fun j d hd hf => by
    have hne : j ≠ i := fun e => hf (e ▸ hF)
    exact h.wtd j d ((upd_ne m.cl (some c') hne).symm.trans hd) hf
theorem McL.cl_of_F {F : Nat → Prop} (h : McL m F) {i : Nat} (hF : F i) : (∀ j, i ∉ m.wt j) ∧ ∀ v, i ∉ m.lt v :=
  ⟨fun j hj => (h.wtc j i hj).1 hF, fun v hv => (h.ltc v i hv).1 hF⟩

/-! ### The last literal that is not false -/
structure OnlyS (m : Mc) (i : Nat) (a : Int) (o : Nat) (m' : Mc) : Prop where
  w : McW m'
  mem : a ∈ m'.tr
  tr : ∃ e, m'.tr = m.tr ++ e
  n : m'.n = m.n
  st : m'.st = m.st
  nx : m'.nx = m.nx
  mp : m'.mp = m.mp
  cl : m'.cl = m.cl
  wt : m'.wt = m.wt
  td : m'.td = m.td
  told : m'.told = m.told
  ltN : ∀ v, (m'.lt v).Nodup
  lt : ∀ v y, y ∈ m'.lt v ↔ y ∈ m.lt v ∨ (y = i ∧ v = plc a ∧ o < m'.lv (plc a))
  lv : ∀ l ∈ m.tr, m'.lv (plc l) = m.lv (plc l)
  rs : ∀ v k, m'.rs v = some k → m.rs v = some k ∨ k = i
  sm : ∀ t j, t ≤ m.tr.length → j ≠ i → Sm m t j → Sm m' t j
theorem onlyA_spec (h : McW m) {i : Nat} {a : Int} {r : List Int} (hc : m.cl i = some (a :: r)) (hv : valL m.vs a ≠ 2) (hr : ∀ x ∈ r, -x ∈ m.tr) :
    McW (onlyA m i a) ∧ a ∈ (onlyA m i a).tr ∧ (∃ e, (onlyA m i a).tr = m.tr ++ e) ∧ (∀ l ∈ m.tr, (onlyA m i a).lv (plc l) = m.lv (plc l)) ∧ (∀ v k, (onlyA m i a).rs v = some k → m.rs v = some k ∨ k = i) ∧ ∀ t j, t ≤ m.tr.length → Sm m t j → Sm (onlyA m i a) t j := by
  unfold onlyA
  have hra := ((h.cls i _ hc).2.2 a (by simp)).1
  by_cases h0 : valL m.vs a = 0
  · rw [if_pos h0]
    have hw : McW (setM m a (some i)) := h.setG hra h0 (.inl ⟨rfl, i, r, rfl, hc, hr⟩)
    refine ⟨hw, by show a ∈ m.tr ++ [a]; simp, ⟨[a], rfl⟩, fun l hl => upd_ne _ _ (h.unk h0 l hl), fun v k hk => ?_, fun t j ht hs => hs.setG h ht h0 _ _⟩
    have hk' : upd m.rs (plc a) (some i) v = some k := hk
    unfold upd at hk'
    split at hk'
    · injection hk' with e; exact .inr e.symm
    · exact .inl hk'
  · rw [if_neg h0]
    have ha : a ∈ m.tr := by
      rcases h.vv.val a with e | e | e
      · exact absurd e h0
      · exact (h.tv a).1 e
      · exact absurd e hv
    exact ⟨h, ha, ⟨[], by simp⟩, fun _ _ => rfl, fun v k hk => .inl hk, fun _ _ _ hs => hs⟩
theorem onlyA_same (i : Nat) (a : Int) : (onlyA m i a).st = m.st ∧ (onlyA m i a).nx = m.nx ∧ (onlyA m i a).mp = m.mp ∧ (onlyA m i a).wt = m.wt ∧ (onlyA m i a).td = m.td ∧ (onlyA m i a).told = m.told := by
  unfold onlyA; split <;> exact ⟨rfl, rfl, rfl, rfl, rfl, rfl⟩
theorem McW.lists (h : McW m) {wt lt : Nat → List Nat} {td : List Nat} : McW { m with wt := wt, lt := lt, td := td } :=
  ⟨h.n, h.vl, h.vv, h.tv, h.one, h.told, h.sorted, h.lt, h.lvl, h.mps, h.cls, h.rs0, h.dec, h.rsn⟩
theorem Sm.lt' {t j : Nat} (h : Sm m t j) {wt lt : Nat → List Nat} {td : List Nat} (hl : ∀ v, j ∈ lt v ↔ j ∈ m.lt v) : Sm { m with wt := wt, lt := lt, td := td } t j := fun c hc => by
  have := h c hc
  match c, this with
  | [a], ⟨h1, h2⟩ => exact ⟨h1, (hl _).trans h2⟩
  | a :: b :: _, ⟨h1, h2, h3⟩ => exact ⟨h1, (hl _).trans h2, h3⟩
theorem onlyM_spec (h : McW m) {i : Nat} {a : Int} {r : List Int} (hc : m.cl i = some (a :: r)) (hv : valL m.vs a ≠ 2) (hr : ∀ x ∈ r, -x ∈ m.tr) (o : Nat) (hN : ∀ v, (m.lt v).Nodup) (hi : i ∉ m.lt (plc a)) : OnlyS m i a o (onlyM m i a o) := by
  obtain ⟨w1, a1, tr1, lv1, rs1, sm1⟩ := onlyA_spec h hc hv hr
  obtain ⟨s1, s2, s3, s4, s5, s6⟩ := onlyA_same (m := m) i a
  have s7 := onlyA_lt m i a
  have s8 := onlyA_cl m i a
  have s9 := onlyA_n m i a
  unfold onlyM
  by_cases hlt : o < (onlyA m i a).lv (plc a)
  · rw [if_pos hlt]
    have hmem : ∀ v y, y ∈ upd (onlyA m i a).lt (plc a) ((onlyA m i a).lt (plc a) ++ [i]) v ↔ y ∈ m.lt v ∨ (y = i ∧ v = plc a) := fun v y => by
      rw [s7]
      unfold upd
      split
      · rename_i e
        rw [List.mem_append, List.mem_singleton, e]; simp
      · rename_i e; simp [e]
    refine { w := w1.lists, mem := a1, tr := tr1, n := s9, st := s1, nx := s2, mp := s3, cl := s8, wt := s4, td := s5, told := s6, ltN := fun v => ?_, lt := fun v y => ?_, lv := lv1, rs := rs1, sm := fun t j ht hj hs => ?_ }
    · show (upd (onlyA m i a).lt (plc a) ((onlyA m i a).lt (plc a) ++ [i]) v).Nodup
      rw [s7]
      unfold upd
      split
      · rw [List.nodup_append]
        exact ⟨hN _, by simp, fun x hx y hy => by simp at hy; subst hy; exact fun e => hi (e ▸ hx)⟩
      · exact hN v
    · rw [hmem]
      show _ ↔ y ∈ m.lt v ∨ (y = i ∧ v = plc a ∧ o < (onlyA m i a).lv (plc a))
      simp [hlt]
    · refine (sm1 t j ht hs).lt' fun v => ?_
      rw [hmem, s7]
      simp [hj]
  · rw [if_neg hlt]
    refine { w := w1, mem := a1, tr := tr1, n := s9, st := s1, nx := s2, mp := s3, cl := s8, wt := s4, td := s5, told := s6, ltN := fun v => by rw [s7]; exact hN v, lt := fun v y => ?_, lv := lv1, rs := rs1, sm := fun t j ht _ hs => sm1 t j ht hs }
    rw [s7]
    simp [hlt]

/-! ### Out of the lists -/
theorem mem_eraseN {xs : List Nat} (h : xs.Nodup) {i y : Nat} : y ∈ xs.erase i ↔ y ≠ i ∧ y ∈ xs := h.mem_erase_iff
theorem eraseM_wt (hN : ∀ j, (m.wt j).Nodup) (i : Nat) (l : Int) (j y : Nat) : y ∈ (eraseM m i l).wt j ↔ y ∈ m.wt j ∧ ¬(y = i ∧ j = wx l) := by
  show y ∈ upd m.wt (wx l) ((m.wt (wx l)).erase i) j ↔ _
  unfold upd
  split
  · rename_i e
    rw [mem_eraseN (hN _), e]
    simp
    exact ⟨fun ⟨a, b⟩ => ⟨b, a⟩, fun ⟨a, b⟩ => ⟨b, a⟩⟩
  · rename_i e; simp [e]
theorem eraseM_lt (hN : ∀ j, (m.lt j).Nodup) (i : Nat) (l : Int) (v y : Nat) : y ∈ (eraseM m i l).lt v ↔ y ∈ m.lt v ∧ ¬(y = i ∧ v = plc l) := by
  show y ∈ upd m.lt (plc l) ((m.lt (plc l)).erase i) v ↔ _
  unfold upd
  split
  · rename_i e
    rw [mem_eraseN (hN _), e]
    simp
    exact ⟨fun ⟨a, b⟩ => ⟨b, a⟩, fun ⟨a, b⟩ => ⟨b, a⟩⟩
  · rename_i e; simp [e]
theorem eraseM_N (hw : ∀ j, (m.wt j).Nodup) (hl : ∀ j, (m.lt j).Nodup) (i : Nat) (l : Int) : (∀ j, ((eraseM m i l).wt j).Nodup) ∧ ∀ j, ((eraseM m i l).lt j).Nodup :=
  ⟨fun j => by
    show (upd m.wt (wx l) ((m.wt (wx l)).erase i) j).Nodup
    unfold upd; split
    · exact (hw _).erase _
    · exact hw j, fun j => by
    show (upd m.lt (plc l) ((m.lt (plc l)).erase i) j).Nodup
    unfold upd; split
    · exact (hl _).erase _
    · exact hl j⟩
/-- What taking a clause out leaves. -/
structure UnwS (m : Mc) (X : Nat → Prop) (m' : Mc) : Prop where
  eq : m' = { m with wt := m'.wt, lt := m'.lt }
  wN : ∀ j, (m'.wt j).Nodup
  lN : ∀ j, (m'.lt j).Nodup
  wt : ∀ j y, y ∈ m'.wt j ↔ y ∈ m.wt j ∧ ¬ X y
  lt : ∀ j y, y ∈ m'.lt j ↔ y ∈ m.lt j ∧ ¬ X y
theorem unwM_spec {F : Nat → Prop} (h : McL m F) {i : Nat} {c : List Int} (hc : m.cl i = some c) : UnwS m (· = i) (unwM m i c) := by
  have hN := eraseM_N h.wtN h.ltN i
  unfold unwM
  have hw : ∀ j y, y ∈ m.wt j → y = i → ∃ a b r, c = a :: b :: r ∧ (j = wx a ∨ j = wx b) := fun j y hy e => by
    subst e
    obtain ⟨_, a, b, r, h1, h2⟩ := h.wtc j y hy
    rw [hc] at h1
    injection h1 with h1
    exact ⟨a, b, r, h1, h2⟩
  have hl : ∀ j y, y ∈ m.lt j → y = i → ∃ a r, c = a :: r ∧ plc a = j := fun j y hy e => by
    subst e
    obtain ⟨_, a, r, h1, h2, _⟩ := h.ltc j y hy
    rw [hc] at h1
    injection h1 with h1
    exact ⟨a, r, h1, h2⟩
  match c, hw, hl with
  | [], hw, hl =>
    refine ⟨rfl, h.wtN, h.ltN, fun j y => ⟨fun hy => ⟨hy, fun e => ?_⟩, fun hy => hy.1⟩, fun j y => ⟨fun hy => ⟨hy, fun e => ?_⟩, fun hy => hy.1⟩⟩
    · obtain ⟨_, _, _, e', _⟩ := hw j y hy e; cases e'
    · obtain ⟨_, _, e', _⟩ := hl j y hy e; cases e'
  | [a], hw, hl =>
    refine ⟨rfl, (hN a).1, (hN a).2, fun j y => ?_, fun j y => ?_⟩
    · show y ∈ (eraseM m i a).wt j ↔ _
      rw [eraseM_wt h.wtN]
      refine ⟨fun ⟨h1, _⟩ => ⟨h1, fun e => ?_⟩, fun ⟨h1, h2⟩ => ⟨h1, fun e => h2 e.1⟩⟩
      obtain ⟨_, _, _, e', _⟩ := hw j y h1 e; cases e'
    · show y ∈ (eraseM m i a).lt j ↔ _
      rw [eraseM_lt h.ltN]
      refine ⟨fun ⟨h1, h2⟩ => ⟨h1, fun e => h2 ⟨e, ?_⟩⟩, fun ⟨h1, h2⟩ => ⟨h1, fun e => h2 e.1⟩⟩
      obtain ⟨_, _, e', e2⟩ := hl j y h1 e
      injection e' with e' _
      subst e'; exact e2.symm
  | a :: b :: r, hw, hl =>
    obtain ⟨n1, n2⟩ := hN a
    refine ⟨rfl, (eraseM_N n1 n2 i b).1, (eraseM_N n1 n2 i b).2, fun j y => ?_, fun j y => ?_⟩
    · show y ∈ (eraseM (eraseM m i a) i b).wt j ↔ _
      rw [eraseM_wt n1, eraseM_wt h.wtN]
      refine ⟨fun ⟨⟨h1, h2⟩, h3⟩ => ⟨h1, fun e => ?_⟩, fun ⟨h1, h2⟩ => ⟨⟨h1, fun e => h2 e.1⟩, fun e => h2 e.1⟩⟩
      obtain ⟨_, _, _, e', e2⟩ := hw j y h1 e
      injection e' with e1 e'
      injection e' with e3 _
      subst e1; subst e3
      exact e2.elim (fun e2 => h2 ⟨e, e2⟩) (fun e2 => h3 ⟨e, e2⟩)
    · show y ∈ (eraseM (eraseM m i a) i b).lt j ↔ _
      rw [eraseM_lt n2, eraseM_lt h.ltN]
      refine ⟨fun ⟨⟨h1, h2⟩, h3⟩ => ⟨h1, fun e => ?_⟩, fun ⟨h1, h2⟩ => ⟨⟨h1, fun e => h2 e.1⟩, fun e => h2 e.1⟩⟩
      obtain ⟨_, _, e', e2⟩ := hl j y h1 e
      injection e' with e1 _
      subst e1
      exact h2 ⟨e, e2.symm⟩
theorem UnwS.lists {F X : Nat → Prop} {m' : Mc} (u : UnwS m X m') (h : McL m F) (hX : ∀ i ∈ m.td, ¬ X i) : McL m' (fun i => F i ∨ X i) where
  tdn := by rw [u.eq]; exact h.tdn
  tdF := fun i hi => by
    rw [u.eq] at hi ⊢
    exact ⟨.inl (h.tdF i hi).1, (h.tdF i hi).2⟩
  ltN := u.lN
  ltc := fun v i hi => by
    rw [u.lt] at hi
    obtain ⟨h1, a, r, h2, h3, h4⟩ := h.ltc v i hi.1
    exact ⟨fun hf => hf.elim h1 hi.2, a, r, by rw [u.eq]; exact h2, h3, by rw [u.eq]; exact h4⟩
  wtN := u.wN
  wtc := fun j i hi => by
    rw [u.wt] at hi
    obtain ⟨h1, a, b, r, h2, h3⟩ := h.wtc j i hi.1
    exact ⟨fun hf => hf.elim h1 hi.2, a, b, r, by rw [u.eq]; exact h2, h3⟩
  wtd := fun i c hc hf => by
    rw [u.eq] at hc
    obtain ⟨h1, h2⟩ := h.wtd i c hc (fun hf' => hf (.inl hf'))
    refine ⟨h1, fun a b r e => ?_⟩
    obtain ⟨h3, h4⟩ := h2 a b r e
    rw [u.wt, u.wt]
    exact ⟨⟨h3, fun hx => hf (.inr hx)⟩, ⟨h4, fun hx => hf (.inr hx)⟩⟩
theorem UnwS.refl (hw : ∀ j, (m.wt j).Nodup) (hl : ∀ j, (m.lt j).Nodup) : UnwS m (fun _ => False) m := ⟨rfl, hw, hl, fun _ _ => by simp, fun _ _ => by simp⟩
theorem UnwS.trans {m1 m2 : Mc} {X Y : Nat → Prop} (h : UnwS m X m1) (k : UnwS m1 Y m2) : UnwS m (fun i => X i ∨ Y i) m2 where
  eq := by rw [k.eq, h.eq]
  wN := k.wN
  lN := k.lN
  wt := fun j y => by rw [k.wt, h.wt, not_or]; exact ⟨fun ⟨⟨a, b⟩, c⟩ => ⟨a, b, c⟩, fun ⟨a, b, c⟩ => ⟨⟨a, b⟩, c⟩⟩
  lt := fun j y => by rw [k.lt, h.lt, not_or]; exact ⟨fun ⟨⟨a, b⟩, c⟩ => ⟨a, b, c⟩, fun ⟨a, b, c⟩ => ⟨⟨a, b⟩, c⟩⟩
theorem UnwS.congr {m1 : Mc} {X Y : Nat → Prop} (h : UnwS m X m1) (e : ∀ i, X i ↔ Y i) : UnwS m Y m1 :=
  ⟨h.eq, h.wN, h.lN, fun j y => by rw [h.wt, e], fun j y => by rw [h.lt, e]⟩
theorem unwA_spec : ∀ (xs : List Nat) {m : Mc} {F : Nat → Prop}, McL m F → (∀ i ∈ xs, i ∉ m.td) → (∀ i ∈ xs, ∃ c, m.cl i = some c) → UnwS m (· ∈ xs) (unwA m xs)
  | [], m, F, h, _, _ => (UnwS.refl h.wtN h.ltN).congr fun i => by simp
  | x :: xs, m, F, h, h1, h2 => by
    obtain ⟨c, hc⟩ := h2 x (by simp)
    have u := unwM_spec h hc
    have hl := u.lists h (fun i hi e => h1 x (by simp) (e ▸ hi))
    obtain ⟨k1, _⟩ := unwM_keep m x c
    have htd : (unwM m x c).td = m.td := fold_td x _ m
    have := unwA_spec xs hl (fun i hi => by rw [htd]; exact h1 i (by simp [hi])) (fun i hi => by rw [k1]; exact h2 i (by simp [hi]))
    have e : unwA m (x :: xs) = unwA (unwM m x c) xs := by unfold unwA; rw [List.foldl_cons, hc]; rfl
    rw [e]
    exact (u.trans this).congr fun i => by simp
/-- Put among those that are to be looked at. -/
theorem McL.loosen {F : Nat → Prop} (h : McL m F) {xs : List Nat} (h0 : xs.Nodup) (h1 : ∀ i ∈ xs, i ∉ m.td) (h2 : ∀ i ∈ xs, ∃ c, m.cl i = some c) : McL (looM m xs) (fun i => F i ∨ i ∈ xs) := by
  have u := unwA_spec xs h h1 h2
  have hl := u.lists h (fun i hi hx => h1 i hx hi)
  obtain ⟨k1, _, k3⟩ := unwA_keep xs m
  refine { hl with tdn := ?_, tdF := fun i hi => ?_ }
  · show (m.td ++ xs).Nodup
    rw [List.nodup_append]
    exact ⟨h.tdn, h0, fun x hx y hy e => h1 y hy (e ▸ hx)⟩
  · have hi' : i ∈ m.td ++ xs := hi
    rw [List.mem_append] at hi'
    show _ ∧ ∃ c, (unwA m xs).cl i = some c
    rw [k1]
    rcases hi' with hi' | hi'
    · exact ⟨.inl (h.tdF i hi').1, (h.tdF i hi').2⟩
    · exact ⟨.inr hi', h2 i hi'⟩
theorem looM_eq {F : Nat → Prop} (h : McL m F) {xs : List Nat} (h1 : ∀ i ∈ xs, i ∉ m.td) (h2 : ∀ i ∈ xs, ∃ c, m.cl i = some c) : looM m xs = { m with wt := (unwA m xs).wt, lt := (unwA m xs).lt, td := m.td ++ xs } := by
  have u := unwA_spec xs h h1 h2
  have := u.eq
  unfold looM
  rw [this]
theorem Sm.loosen {F : Nat → Prop} (h : McL m F) {xs : List Nat} (h1 : ∀ i ∈ xs, i ∉ m.td) (h2 : ∀ i ∈ xs, ∃ c, m.cl i = some c) {t j : Nat} (hs : Sm m t j) (hj : j ∉ xs) : Sm (looM m xs) t j := by
  rw [looM_eq h h1 h2]
  refine hs.lt' fun v => ?_
  rw [(unwA_spec xs h h1 h2).lt]
  simp [hj]
end
end Go.Proofs.Ytmlgpnaikdpifaa

namespace Go.Proofs.Ytmlgpnaikdpifaa
open Go.RowKit

/-- Of a state these stay, or only grow. -/
structure McX (m m' : Mc) : Prop where
  n : m'.n = m.n
  st : m'.st = m.st
  nx : m'.nx = m.nx
  mp : m'.mp = m.mp
  tr : ∃ e, m'.tr = m.tr ++ e
  rs : ∀ l ∈ m.tr, m'.rs (plc l) = m.rs (plc l)
  cl : ∀ i, (m.cl i = none ∧ m'.cl i = none) ∨ ∃ c d, m.cl i = some c ∧ m'.cl i = some d ∧ d.Perm c
theorem McX.refl (m : Mc) : McX m m := ⟨rfl, rfl, rfl, rfl, ⟨[], by simp⟩, fun _ _ => rfl, fun i => by
  cases h : m.cl i with
  | none => exact .inl ⟨rfl, rfl⟩
  | some c => exact .inr ⟨c, c, rfl, rfl, .refl _⟩⟩
theorem McX.trans {a b c : Mc} (h : McX a b) (k : McX b c) : McX a c where
  n := k.n.trans h.n
  st := k.st.trans h.st
  nx := k.nx.trans h.nx
  mp := k.mp.trans h.mp
  tr := by
    obtain ⟨e, he⟩ := h.tr
    obtain ⟨f, hf⟩ := k.tr
    exact ⟨e ++ f, by rw [hf, he, List.append_assoc]⟩
  rs := fun l hl => by
    obtain ⟨e, he⟩ := h.tr
    exact (k.rs l (by rw [he]; simp [hl])).trans (h.rs l hl)
  cl := fun i => by
    rcases h.cl i with ⟨h1, h2⟩ | ⟨c, d, h1, h2, h3⟩
    · rcases k.cl i with ⟨k1, k2⟩ | ⟨c', d', k1, _⟩
      · exact .inl ⟨h1, k2⟩
      · rw [h2] at k1; cases k1
    · rcases k.cl i with ⟨k1, _⟩ | ⟨c', d', k1, k2, k3⟩
      · rw [h2] at k1; cases k1
      · rw [h2] at k1
        injection k1 with k1
        subst k1
        exact .inr ⟨c, d', h1, k2, k3.trans h3⟩
section
variable {m : Mc}
theorem McX.of {m' : Mc} (h1 : m'.n = m.n) (h2 : m'.st = m.st) (h3 : m'.nx = m.nx) (h4 : m'.mp = m.mp) (h5 : m'.tr = m.tr) (h6 : m'.rs = m.rs) (h7 : m'.cl = m.cl) : McX m m' :=
  ⟨h1, h2, h3, h4, ⟨[], by rw [h5]; simp⟩, fun _ _ => by rw [h6], fun i => by rw [h7]; exact (McX.refl m).cl i⟩
theorem McX.putCl {i : Nat} {c c' : List Int} (hc : m.cl i = some c) (hp : c'.Perm c) : McX m (putCl m i c') :=
  ⟨rfl, rfl, rfl, rfl, ⟨[], by show m.tr = _; simp⟩, fun _ _ => rfl, fun j => by
    by_cases e : j = i
    · subst e; exact .inr ⟨c, c', hc, upd_same _ _ _, hp⟩
    · have : (Proofs.Ytmlgpnaikdpifaa.putCl m i c').cl j = m.cl j := upd_ne _ _ e
      rw [this]; exact (McX.refl m).cl j⟩
theorem McX.only {i : Nat} {a : Int} {o : Nat} (h : McW m) {r : List Int} (hc : m.cl i = some (a :: r)) (hv : valL m.vs a ≠ 2) : McX m (onlyM m i a o) := by
  have h1 : McX m (onlyA m i a) := by
    unfold onlyA
    by_cases h0 : valL m.vs a = 0
    · rw [if_pos h0]
      exact ⟨rfl, rfl, rfl, rfl, ⟨[a], rfl⟩, fun l hl => upd_ne _ _ (h.unk h0 l hl), fun j => (McX.refl m).cl j⟩
    · rw [if_neg h0]; exact McX.refl m
  refine h1.trans ?_
  unfold onlyM
  split
  · exact McX.of rfl rfl rfl rfl rfl rfl rfl
  · exact McX.refl _

theorem tr_mem_pos {tr : List Int} {l : Int} (h : l ∈ tr) : ∃ p, p < tr.length ∧ tr.getD p 0 = l := mem_getD h
theorem McW.rs_head (h : McW m) {v k : Nat} (hr : m.rs v = some k) : ∃ p c, p < m.tr.length ∧ plc (m.tr.getD p 0) = v ∧ m.cl k = some (m.tr.getD p 0 :: c) := by
  have hk : ¬ ∀ l ∈ m.tr, plc l ≠ v := fun hn => by rw [h.rs0 v hn] at hr; cases hr
  have : ∃ l ∈ m.tr, plc l = v := by
    refine Classical.byContradiction fun hn => hk fun l hl e => hn ⟨l, hl, e⟩
  obtain ⟨l, hl, e⟩ := this
  obtain ⟨p, hp, rfl⟩ := tr_mem_pos hl
  have hs : p ∉ m.st := fun hs => by
    have := h.dec p hp hs
    rw [e, hr] at this; cases this
  obtain ⟨k', c, h1, h2, _⟩ := h.rsn p hp hs
  rw [e, hr] at h1
  injection h1 with h1
  subst h1
  exact ⟨p, c, hp, e, h2⟩
theorem getD_mem' {tr : List Int} {p : Nat} (h : p < tr.length) : tr.getD p 0 ∈ tr := getD_mem h
/-- A clause whose first literal is not true is no reason. -/
theorem McW.not_rs (h : McW m) {i : Nat} {a : Int} {r : List Int} (hc : m.cl i = some (a :: r)) (ha : a ∉ m.tr) (v : Nat) : m.rs v ≠ some i := fun hr => by
  obtain ⟨p, c, hp, _, h2⟩ := h.rs_head hr
  rw [hc] at h2
  injection h2 with h2
  injection h2 with h2 _
  exact ha (h2 ▸ getD_mem' hp)
theorem McW.clsne (h : McW m) {i : Nat} {a b : Int} {r : List Int} (hc : m.cl i = some (a :: b :: r)) : a ≠ b ∧ a ≠ -b ∧ plc a ≠ plc b := by
  obtain ⟨_, h2, h3⟩ := h.cls i _ hc
  have h1 : a ≠ b := by simp at h2; exact fun e => h2.1.1 e
  have h4 : a ≠ -b := fun e => (h3 b (by simp)).2 (by rw [← e]; simp)
  exact ⟨h1, h4, fun e => (plc_pm e).elim h1 h4⟩

theorem getD_apps {tr e : List Int} {p : Nat} (h : p < tr.length) : (tr ++ e).getD p 0 = tr.getD p 0 := by simp [List.getD, List.getElem?_append_left h]
/-! ### In the middle of tell -/
structure TI (m : Mc) (x : Int) (rest wrong : List Nat) : Prop where
  w : McW m
  l : McL m (· ∈ m.td)
  r : ∀ i ∈ m.td, ∀ v, m.rs v ≠ some i
  t0 : 0 < m.told
  tx : m.tr.getD (m.told - 1) 0 = -x
  rn : rest.Nodup
  rin : ∀ i ∈ rest, i ∈ m.wt (wx x)
  wn : wrong.Nodup
  win : ∀ i ∈ wrong, i ∉ m.td ∧ i ∉ rest ∧ ∃ c, m.cl i = some c ∧ ∀ l ∈ c, -l ∈ m.tr
  s : ∀ i, i ∉ m.td → i ∉ wrong → Sm m (if i ∈ rest then m.told - 1 else m.told) i
variable {x : Int} {rest wrong : List Nat}
theorem TI.lt (h : TI m x rest wrong) : m.told - 1 < m.tr.length := by have := h.w.told; have := h.t0; omega
theorem TI.neg (h : TI m x rest wrong) : -x ∈ m.tr := by rw [← h.tx]; exact getD_mem' h.lt
theorem TI.take (h : TI m x rest wrong) : -x ∈ m.tr.take m.told := by rw [← h.tx]; exact (h.w.take_iff h.lt).2 (by have := h.t0; omega)
theorem TI.ntake (h : TI m x rest wrong) : -x ∉ m.tr.take (m.told - 1) := by rw [← h.tx]; exact fun hm => by have := (h.w.take_iff h.lt).1 hm; omega
theorem TI.nx (h : TI m x rest wrong) : x ∉ m.tr := fun hx => h.w.nb hx h.neg
theorem TI.take_of (h : TI m x rest wrong) {a : Int} (ha : a ≠ x) (hn : -a ∉ m.tr.take (m.told - 1)) : -a ∉ m.tr.take m.told := fun hm => by
  obtain ⟨p, hp, hpt, e⟩ := tr_of_take hm
  rcases Nat.lt_or_ge p (m.told - 1) with h1 | h1
  · exact hn (e ▸ tr_mem_take hp h1)
  · have : p = m.told - 1 := by omega
    rw [this, h.tx] at e
    exact ha (by omega)
theorem TI.head (h : TI m x rest wrong) {i : Nat} (hi : i ∈ rest) : i ∉ m.td ∧ i ∉ wrong ∧ ((∃ b r, m.cl i = some (x :: b :: r)) ∨ ∃ a r, m.cl i = some (a :: x :: r)) := by
  obtain ⟨h1, a, b, r, h2, h3⟩ := h.l.wtc _ i (h.rin i hi)
  refine ⟨h1, fun hw => (h.win i hw).2.1 hi, ?_⟩
  rcases h3 with h3 | h3
  · rw [← wx_inj h3] at h2; exact .inl ⟨b, r, h2⟩
  · rw [← wx_inj h3] at h2; exact .inr ⟨a, r, h2⟩
/-- Of a clause that is gone through now, x its second literal. -/
theorem TI.now (h : TI m x rest wrong) {i : Nat} (hi : i ∈ rest) {a : Int} {r : List Int} (hc : m.cl i = some (a :: x :: r)) : -a ∉ m.tr.take m.told ∧ i ∉ m.lt (plc a) := by
  obtain ⟨h1, h2, _⟩ := h.head hi
  have hs := h.s i h1 h2
  rw [if_pos hi] at hs
  obtain ⟨k1, k2, _⟩ := hs _ hc
  refine ⟨h.take_of (h.w.clsne hc).1 k1, fun hm => ?_⟩
  exact h.ntake (k2.1 hm).1
theorem rest_if {i j : Nat} (hn : (i :: rest).Nodup) (a b : Nat) : (j ≠ i → (if j ∈ i :: rest then a else b) = (if j ∈ rest then a else b)) ∧ (if i ∈ rest then a else b) = b := by
  rw [List.nodup_cons] at hn
  refine ⟨fun hj => ?_, if_neg hn.1⟩
  by_cases hm : j ∈ rest
  · rw [if_pos hm, if_pos (by simp [hm])]
  · rw [if_neg hm, if_neg (by simp [hj, hm])]
/-- One more is gone through, and stays where it is. -/
theorem TI.next {i : Nat} (h : TI m x (i :: rest) wrong) (hs : Sm m m.told i) : TI m x rest wrong where
  w := h.w
  l := h.l
  r := h.r
  t0 := h.t0
  tx := h.tx
  rn := (List.nodup_cons.1 h.rn).2
  rin := fun j hj => h.rin j (by simp [hj])
  wn := h.wn
  win := fun j hj => ⟨(h.win j hj).1, fun hm => (h.win j hj).2.1 (by simp [hm]), (h.win j hj).2.2⟩
  s := fun j h1 h2 => by
    obtain ⟨e1, e2⟩ := rest_if (j := j) h.rn (m.told - 1) m.told
    by_cases e : j = i
    · subst e; rw [e2]; exact hs
    · rw [← e1 e]; exact h.s j h1 h2
theorem TI.keep {i : Nat} (h : TI m x (i :: rest) wrong) {a : Int} {r : List Int} (hc : m.cl i = some (a :: x :: r)) (ha : a ∈ m.tr) (hl : m.lv (plc a) ≤ m.lv (plc x)) : TI m x rest wrong := by
  obtain ⟨h1, h2⟩ := h.now (by simp) hc
  refine h.next fun c hc' => ?_
  rw [hc] at hc'
  injection hc' with hc'
  subst hc'
  exact ⟨h1, ⟨fun hm => (h2 hm).elim, fun hm => by omega⟩, fun _ => ha⟩
theorem TI.bad {i : Nat} (h : TI m x (i :: rest) wrong) {c : List Int} (hc : m.cl i = some c) (hf : ∀ l ∈ c, -l ∈ m.tr) : TI m x rest (wrong ++ [i]) where
  w := h.w
  l := h.l
  r := h.r
  t0 := h.t0
  tx := h.tx
  rn := (List.nodup_cons.1 h.rn).2
  rin := fun j hj => h.rin j (by simp [hj])
  wn := by
    rw [List.nodup_append]
    exact ⟨h.wn, by simp, fun y hy z hz e => by simp at hz; subst hz; subst e; exact (h.win _ hy).2.1 (by simp)⟩
  win := fun j hj => by
    rw [List.mem_append, List.mem_singleton] at hj
    rcases hj with hj | rfl
    · exact ⟨(h.win j hj).1, fun hm => (h.win j hj).2.1 (by simp [hm]), (h.win j hj).2.2⟩
    · exact ⟨(h.head (by simp)).1, (List.nodup_cons.1 h.rn).1, c, hc, hf⟩
  s := fun j h1 h2 => by
    rw [List.mem_append, List.mem_singleton, not_or] at h2
    rw [← (rest_if (j := j) h.rn (m.told - 1) m.told).1 h2.2]
    exact h.s j h1 h2.1
/-- The two watched literals change places. -/
theorem McL.swap2 {F : Nat → Prop} (h : McL m F) {i : Nat} {a b : Int} {r : List Int} (hc : m.cl i = some (a :: b :: r)) (hl : ∀ v, i ∉ m.lt v) : McL (Proofs.Ytmlgpnaikdpifaa.putCl m i (b :: a :: r)) F where
  tdn := h.tdn
  tdF := fun j hj => by
    obtain ⟨h1, d, h2⟩ := h.tdF j hj
    refine ⟨h1, ?_⟩
    by_cases e : j = i
    · subst e; exact ⟨_, upd_same _ _ _⟩
    · exact ⟨d, (upd_ne _ _ e).trans h2⟩
  ltN := h.ltN
  ltc := fun v j hj => by
    obtain ⟨h1, a', r', h2, h3⟩ := h.ltc v j hj
    exact ⟨h1, a', r', (upd_ne _ _ (fun e => hl v (by rw [← e]; exact hj))).trans h2, h3⟩
  wtN := h.wtN
  wtc := fun v j hj => by
    obtain ⟨h1, a', b', r', h2, h3⟩ := h.wtc v j hj
    by_cases e : j = i
    · subst e
      rw [hc] at h2
      injection h2 with h2
      injection h2 with e1 h2
      injection h2 with e2 e3
      subst e1; subst e2
      exact ⟨h1, b, a, r, upd_same _ _ _, h3.symm⟩
    · exact ⟨h1, a', b', r', (upd_ne _ _ e).trans h2, h3⟩
  wtd := fun j d hd hf => by
    by_cases e : j = i
    · subst e
      have hd' : some (b :: a :: r) = some d := (upd_same m.cl j (some (b :: a :: r))).symm.trans hd
      injection hd' with hd'
      subst hd'
      obtain ⟨h3, h4⟩ := (h.wtd j _ hc hf).2 a b r rfl
      exact ⟨by simp, fun a' b' r' e => by
        injection e with e1 e
        injection e with e2 _
        subst e1; subst e2
        exact ⟨h4, h3⟩⟩
    · exact h.wtd j d ((upd_ne m.cl (some (b :: a :: r)) e).symm.trans hd) hf
theorem TI.swap {i : Nat} (h : TI m x rest wrong) (hi : i ∈ rest) {b : Int} {r : List Int} (hc : m.cl i = some (x :: b :: r)) : TI (Proofs.Ytmlgpnaikdpifaa.putCl m i (b :: x :: r)) x rest wrong := by
  obtain ⟨n1, n2, _⟩ := h.head hi
  have hlt : ∀ v, i ∉ m.lt v := fun v hm => by
    obtain ⟨_, a, r', h2, _, h4⟩ := h.l.ltc v i hm
    rw [hc] at h2
    injection h2 with h2
    injection h2 with e1 _
    exact h.nx (e1 ▸ h4)
  have hp : (b :: x :: r).Perm (x :: b :: r) := List.Perm.swap ..
  refine { w := h.w.putCl hc hp (.inl (h.w.not_rs hc h.nx)), l := h.l.swap2 hc hlt, r := h.r, t0 := h.t0, tx := h.tx, rn := h.rn, rin := h.rin, wn := h.wn, win := fun j hj => ?_, s := fun j h1 h2 => ?_ }
  · obtain ⟨h1, h2, c, h3, h4⟩ := h.win j hj
    have hne : j ≠ i := fun e => h2 (e ▸ hi)
    exact ⟨h1, h2, c, (upd_ne _ _ hne).trans h3, h4⟩
  · by_cases e : j = i
    · subst e
      show Sm _ (if j ∈ rest then m.told - 1 else m.told) j
      rw [if_pos hi]
      have hs := h.s j h1 h2
      rw [if_pos hi] at hs
      obtain ⟨k1, k2, k3⟩ := hs _ hc
      intro d hd
      have hd' : some (b :: x :: r) = some d := (upd_same m.cl j (some (b :: x :: r))).symm.trans hd
      injection hd' with hd'
      subst hd'
      exact ⟨fun hm => h.nx (k3 hm), ⟨fun hm => (hlt _ hm).elim, fun hm => (h.ntake hm.1).elim⟩, fun hm => (h.ntake hm).elim⟩
    · exact (h.s j h1 h2).putCl e
/-- Its last literal that is not false is true from now on. -/
theorem TI.only {i : Nat} (h : TI m x (i :: rest) wrong) {a : Int} {r : List Int} (hc : m.cl i = some (a :: x :: r)) (hv : valL m.vs a ≠ 2) (hr : ∀ l ∈ r, -l ∈ m.tr) : TI (onlyM m i a (m.lv (plc x))) x rest wrong := by
  obtain ⟨h1, h2⟩ := h.now (by simp) hc
  obtain ⟨n1, n2, _⟩ := h.head (i := i) (by simp)
  have hrx : ∀ l ∈ x :: r, -l ∈ m.tr := fun l hl => by
    rcases List.mem_cons.1 hl with rfl | hl
    · exact h.neg
    · exact hr l hl
  have S := onlyM_spec h.w hc hv hrx (m.lv (plc x)) h.l.ltN h2
  generalize onlyM m i a (m.lv (plc x)) = m' at S
  obtain ⟨e, he⟩ := S.tr
  have htold : m.told ≤ m.tr.length := h.w.told
  have htk : ∀ t, t ≤ m.tr.length → m'.tr.take t = m.tr.take t := fun t ht => by rw [he]; exact List.take_append_of_le_length ht
  have hlx : m'.lv (plc x) = m.lv (plc x) := by rw [← plc_ng x]; exact S.lv _ h.neg
  refine { w := S.w, l := ?_, r := fun j hj v => ?_, t0 := by rw [S.told]; exact h.t0, tx := ?_, rn := (List.nodup_cons.1 h.rn).2, rin := fun j hj => by rw [S.wt]; exact h.rin j (by simp [hj]), wn := h.wn, win := fun j hj => ?_, s := fun j k1 k2 => ?_ }
  · refine { tdn := by rw [S.td]; exact h.l.tdn, tdF := fun j hj => ?_, ltN := S.ltN, ltc := fun v j hj => ?_, wtN := by rw [S.wt]; exact h.l.wtN, wtc := fun v j hj => ?_, wtd := fun j c hc' hf => ?_ }
    · rw [S.td] at hj ⊢; rw [S.cl]; exact h.l.tdF j hj
    · rw [S.lt] at hj
      rw [S.td, S.cl]
      rcases hj with hj | ⟨rfl, rfl, _⟩
      · obtain ⟨k1, a', r', k2, k3, k4⟩ := h.l.ltc v j hj
        exact ⟨k1, a', r', k2, k3, by rw [he]; simp [k4]⟩
      · exact ⟨n1, a, _, hc, rfl, S.mem⟩
    · rw [S.wt] at hj; rw [S.td, S.cl]; exact h.l.wtc v j hj
    · rw [S.cl] at hc'; rw [S.td] at hf; rw [S.wt]; exact h.l.wtd j c hc' hf
  · rw [S.td] at hj
    intro hk
    rcases S.rs v j hk with hk | rfl
    · exact h.r j hj v hk
    · exact n1 hj
  · rw [S.told, he, getD_apps h.lt]; exact h.tx
  · obtain ⟨k1, k2, c, k3, k4⟩ := h.win j hj
    exact ⟨by rw [S.td]; exact k1, fun hm => k2 (by simp [hm]), c, by rw [S.cl]; exact k3, fun l hl => by rw [he]; simp [k4 l hl]⟩
  · rw [S.td] at k1
    rw [S.told]
    obtain ⟨e1, e2⟩ := rest_if (j := j) h.rn (m.told - 1) m.told
    by_cases ej : j = i
    · subst ej
      rw [e2]
      intro c hc'
      rw [S.cl, hc] at hc'
      injection hc' with hc'
      subst hc'
      rw [htk _ htold]
      refine ⟨h1, ?_, fun _ => S.mem⟩
      rw [S.lt, hlx]
      exact ⟨fun hm => hm.elim (fun hm => (h2 hm).elim) (fun ⟨_, _, hm⟩ => ⟨h.take, hm⟩), fun ⟨_, hm⟩ => .inr ⟨rfl, rfl, hm⟩⟩
    · rw [← e1 ej]
      refine S.sm _ j ?_ ej (h.s j k1 k2)
      split <;> omega
end
end Go.Proofs.Ytmlgpnaikdpifaa

namespace Go.Proofs.Ytmlgpnaikdpifaa
open Go.RowKit

section
variable {m : Mc} {x : Int} {rest wrong : List Nat}
/-- Where tell begins. -/
theorem TI.start (h : McI m) (ht : m.told < m.tr.length) : TI { m with told := m.told + 1 } (-(m.tr.getD m.told 0)) (m.wt (wx (-(m.tr.getD m.told 0)))) [] where
  w := { h.w with told := ht }
  l := h.l.congr (fun _ => Iff.rfl) rfl rfl rfl rfl (fun _ hl => hl)
  r := h.r
  t0 := Nat.succ_pos _
  tx := by show m.tr.getD (m.told + 1 - 1) 0 = _; rw [Nat.add_sub_cancel, Int.neg_neg]
  rn := h.l.wtN _
  rin := fun i hi => hi
  wn := by simp
  win := fun i hi => by simp at hi
  s := fun i h1 _ => by
    have hs := h.s i h1
    by_cases hm : i ∈ m.wt (wx (-(m.tr.getD m.told 0)))
    · rw [if_pos hm]
      show Sm _ (m.told + 1 - 1) i
      rw [Nat.add_sub_cancel]
      exact hs
    · rw [if_neg hm]
      show Sm _ (m.told + 1) i
      intro c hc
      have hs' := hs c hc
      have key : ∀ y : Int, y ≠ -(m.tr.getD m.told 0) → (-y ∈ m.tr.take (m.told + 1) ↔ -y ∈ m.tr.take m.told) := fun y hy => by
        constructor
        · intro hmm
          obtain ⟨p, hp, hpt, e⟩ := tr_of_take hmm
          rcases Nat.lt_or_ge p m.told with h2 | h2
          · exact e ▸ tr_mem_take hp h2
          · exfalso
            have : p = m.told := by omega
            subst this
            exact hy (by omega)
        · intro hmm
          obtain ⟨p, hp, hpt, e⟩ := tr_of_take hmm
          exact e ▸ tr_mem_take hp (by omega)
      match c, hs', hc with
      | [a], hs', _ => exact hs'
      | a :: b :: r, ⟨k1, k2, k3⟩, hc =>
        have hw := (h.l.wtd i _ hc h1).2 a b r rfl
        have ha : a ≠ -(m.tr.getD m.told 0) := fun e => hm (e ▸ hw.1)
        have hb : b ≠ -(m.tr.getD m.told 0) := fun e => hm (e ▸ hw.2)
        exact ⟨fun hmm => k1 ((key a ha).1 hmm), k2.trans (by show _ ↔ (-b ∈ m.tr.take (m.told + 1) ∧ _); rw [key b hb]), fun hmm => k3 ((key b hb).1 hmm)⟩
/-- Where it ends. -/
theorem TI.done (h : TI m x [] wrong) : McI (looM m wrong) := by
  have h1 : ∀ i ∈ wrong, i ∉ m.td := fun i hi => (h.win i hi).1
  have h2 : ∀ i ∈ wrong, ∃ c, m.cl i = some c := fun i hi => by obtain ⟨_, _, c, hc, _⟩ := h.win i hi; exact ⟨c, hc⟩
  have he := looM_eq h.l h1 h2
  have hL := h.l.loosen h.wn h1 h2
  refine { w := by rw [he]; exact h.w.lists, l := ?_, s := fun i hi => ?_, r := fun i hi v => ?_ }
  · exact hL.congr (fun i => by show _ ↔ i ∈ m.td ++ wrong; rw [List.mem_append]) rfl rfl rfl rfl (fun _ hl => hl)
  · have hi' : i ∉ m.td ++ wrong := hi
    rw [List.mem_append, not_or] at hi'
    have hs := h.s i hi'.1 hi'.2
    rw [if_neg (by simp)] at hs
    have ht : (looM m wrong).told = m.told := by rw [he]
    rw [ht]
    exact hs.loosen h.l h1 h2 hi'.2
  · have hr : (looM m wrong).rs = m.rs := by rw [he]
    rw [hr]
    have hi' : i ∈ m.td ++ wrong := hi
    rw [List.mem_append] at hi'
    rcases hi' with hi' | hi'
    · exact h.r i hi' v
    · obtain ⟨k1, _, c, hc, hf⟩ := h.win i hi'
      have hne := (h.l.wtd i c hc k1).1
      match c, hne, hc, hf with
      | a :: r, _, hc, hf => exact h.w.not_rs hc (fun ha => h.w.nb ha (hf a (by simp))) v
theorem looM_x (h : TI m x [] wrong) : McX m (looM m wrong) := by
  have h1 : ∀ i ∈ wrong, i ∉ m.td := fun i hi => (h.win i hi).1
  have h2 : ∀ i ∈ wrong, ∃ c, m.cl i = some c := fun i hi => by obtain ⟨_, _, c, hc, _⟩ := h.win i hi; exact ⟨c, hc⟩
  rw [looM_eq h.l h1 h2]
  exact McX.of rfl rfl rfl rfl rfl rfl rfl
/-- Another literal is watched from now on. -/
theorem TI.rew {i : Nat} (h : TI m x (i :: rest) wrong) {a : Int} {r : List Int} (hc : m.cl i = some (a :: x :: r)) {j : Nat} (hj : 2 ≤ j) (hjl : j < (a :: x :: r).length) (hv : valL m.vs ((a :: x :: r).getD j 0) ≠ 2) {W' : List Nat} (hL : ∀ y, y ∈ W' ↔ y ∈ m.wt (wx x) ∧ y ≠ i) (hN : W'.Nodup) :
    TI { putCl m i (swapL (a :: x :: r) 1 j) with wt := upd (upd m.wt (wx x) W') (wx ((a :: x :: r).getD j 0)) (m.wt (wx ((a :: x :: r).getD j 0)) ++ [i]) } x rest wrong := by
  obtain ⟨h1, h2⟩ := h.now (by simp) hc
  obtain ⟨n1, n2, _⟩ := h.head (i := i) (by simp)
  obtain ⟨q, rfl⟩ : ∃ q, j = q + 2 := ⟨j - 2, by omega⟩
  have hq : q < r.length := by simp at hjl; omega
  have ey : (a :: x :: r).getD (q + 2) 0 = r.getD q 0 := by simp [List.getD]
  rw [ey] at hv ⊢
  obtain ⟨y, hy⟩ : ∃ y, r.getD q 0 = y := ⟨_, rfl⟩
  rw [hy] at hv ⊢
  have hym : y ∈ r := by rw [← hy]; exact getD_mem hq
  have esw : swapL (a :: x :: r) 1 (q + 2) = a :: y :: r.set q x := by
    unfold swapL
    rw [ey, hy]
    simp [List.getD]
  rw [esw]
  have hnd := (h.w.cls i _ hc).2.1
  have hop := (h.w.cls i _ hc).2.2
  have hya : y ≠ a := fun e => by subst e; simp at hnd; exact hnd.1.2 hym
  have hyx : y ≠ x := fun e => by subst e; simp at hnd; exact hnd.2.1 hym
  have hax := (h.w.clsne hc).1
  have hyt : -y ∉ m.tr := fun hm => hv ((h.w.vf y).2 hm)
  have hperm : (a :: y :: r.set q x).Perm (a :: x :: r) := by
    have := swapL_perm (a :: x :: r) (a := 1) (b := q + 2) (by simp) (by simp; omega)
    rwa [esw] at this
  have hwy : i ∉ m.wt (wx y) := fun hm => by
    obtain ⟨_, a', b', r', e1, e2⟩ := h.l.wtc _ i hm
    rw [hc] at e1
    injection e1 with e1
    injection e1 with e3 e1
    injection e1 with e4 _
    subst e3; subst e4
    exact e2.elim (fun e => hya (wx_inj e)) (fun e => hyx (wx_inj e))
  have wne : wx y ≠ wx x := fun e => hyx (wx_inj e)
  have hwt : ∀ v z, z ∈ upd (upd m.wt (wx x) W') (wx y) (m.wt (wx y) ++ [i]) v ↔ (z ∈ m.wt v ∧ ¬(z = i ∧ v = wx x)) ∨ (z = i ∧ v = wx y) := fun v z => by
    unfold upd
    by_cases e1 : v = wx y
    · subst e1
      rw [if_pos rfl, List.mem_append, List.mem_singleton]
      simp [wne]
    · rw [if_neg e1]
      by_cases e2 : v = wx x
      · rw [if_pos e2, hL, e2]
        have wne' : ¬ wx x = wx y := fun e => wne e.symm
        simp [wne']
      · rw [if_neg e2]; simp [e1, e2]
  have hw : McW (Proofs.Ytmlgpnaikdpifaa.putCl m i (a :: y :: r.set q x)) := h.w.putCl hc hperm (.inr rfl)
  refine { w := ⟨hw.n, hw.vl, hw.vv, hw.tv, hw.one, hw.told, hw.sorted, hw.lt, hw.lvl, hw.mps, hw.cls, hw.rs0, hw.dec, hw.rsn⟩, l := ?_, r := h.r, t0 := h.t0, tx := h.tx, rn := (List.nodup_cons.1 h.rn).2, rin := fun z hz => ?_, wn := h.wn, win := fun z hz => ?_, s := fun z k1 k2 => ?_ }
  · refine { tdn := h.l.tdn, tdF := fun z hz => ?_, ltN := h.l.ltN, ltc := fun v z hz => ?_, wtN := fun v => ?_, wtc := fun v z hz => ?_, wtd := fun z c hc' hf => ?_ }
    · obtain ⟨k1, c, k2⟩ := h.l.tdF z hz
      exact ⟨k1, c, (upd_ne _ _ (fun e => n1 (by rw [← e]; exact hz))).trans k2⟩
    · obtain ⟨k1, a', r', k2, k3, k4⟩ := h.l.ltc v z hz
      by_cases e : z = i
      · subst e
        rw [hc] at k2
        injection k2 with k2
        injection k2 with e1 _
        subst e1
        exact ⟨k1, a, _, upd_same _ _ _, k3, k4⟩
      · exact ⟨k1, a', r', (upd_ne _ _ e).trans k2, k3, k4⟩
    · show (upd (upd m.wt (wx x) W') (wx y) (m.wt (wx y) ++ [i]) v).Nodup
      unfold upd
      split
      · rw [List.nodup_append]
        exact ⟨h.l.wtN _, by simp, fun z hz u hu e => by simp at hu; subst hu; subst e; exact hwy hz⟩
      · split
        · exact hN
        · exact h.l.wtN v
    · rw [hwt] at hz
      rcases hz with ⟨hz, hz2⟩ | ⟨rfl, rfl⟩
      · obtain ⟨k1, a', b', r', k2, k3⟩ := h.l.wtc v z hz
        by_cases e : z = i
        · subst e
          rw [hc] at k2
          injection k2 with k2
          injection k2 with e1 k2
          injection k2 with e2 _
          subst e1; subst e2
          exact ⟨k1, a, y, _, upd_same _ _ _, k3.elim .inl (fun e => (hz2 ⟨rfl, e⟩).elim)⟩
        · exact ⟨k1, a', b', r', (upd_ne _ _ e).trans k2, k3⟩
      · exact ⟨n1, a, y, _, upd_same _ _ _, .inr rfl⟩
    · by_cases e : z = i
      · subst e
        have hd' : some (a :: y :: r.set q x) = some c := (upd_same m.cl z (some (a :: y :: r.set q x))).symm.trans hc'
        injection hd' with hd'
        subst hd'
        refine ⟨by simp, fun a' b' r' e => ?_⟩
        injection e with e1 e
        injection e with e2 _
        subst e1; subst e2
        have := ((h.l.wtd z _ hc hf).2 a x r rfl).1
        exact ⟨(hwt _ _).2 (.inl ⟨this, fun e => hax (wx_inj e.2)⟩), (hwt _ _).2 (.inr ⟨rfl, rfl⟩)⟩
      · have hd : m.cl z = some c := (upd_ne m.cl (some (a :: y :: r.set q x)) e).symm.trans hc'
        obtain ⟨k1, k2⟩ := h.l.wtd z c hd hf
        exact ⟨k1, fun a' b' r' ec => ⟨(hwt _ _).2 (.inl ⟨(k2 a' b' r' ec).1, fun e' => e e'.1⟩), (hwt _ _).2 (.inl ⟨(k2 a' b' r' ec).2, fun e' => e e'.1⟩)⟩⟩
  · refine (hwt _ _).2 (.inl ⟨h.rin z (by simp [hz]), fun e => ?_⟩)
    exact (List.nodup_cons.1 h.rn).1 (e.1 ▸ hz)
  · obtain ⟨k1, k2, c, k3, k4⟩ := h.win z hz
    have hne : z ≠ i := fun e => k2 (by simp [e])
    exact ⟨k1, fun hm => k2 (by simp [hm]), c, (upd_ne _ _ hne).trans k3, k4⟩
  · obtain ⟨e1, e2⟩ := rest_if (j := z) h.rn (m.told - 1) m.told
    show Sm _ (if z ∈ rest then m.told - 1 else m.told) z
    by_cases e : z = i
    · subst e
      rw [e2]
      intro c hc'
      have hd' : some (a :: y :: r.set q x) = some c := (upd_same m.cl z (some (a :: y :: r.set q x))).symm.trans hc'
      injection hd' with hd'
      subst hd'
      exact ⟨h1, ⟨fun hm => (h2 hm).elim, fun hm => (hyt (List.mem_of_mem_take hm.1)).elim⟩, fun hm => (hyt (List.mem_of_mem_take hm)).elim⟩
    · rw [← e1 e]
      intro c hc'
      exact h.s z k1 k2 c ((upd_ne m.cl (some (a :: y :: r.set q x)) e).symm.trans hc')

/-! ### settle -/
theorem McI.putTd (h : McI m) {i : Nat} {c c' : List Int} (hc : m.cl i = some c) (hi : i ∈ m.td) (hp : c'.Perm c) : McI (putCl m i c') where
  w := h.w.putCl hc hp (.inl (h.r i hi))
  l := h.l.putF hc hi
  s := fun j hj => (h.s j hj).putCl (fun e => hj (e ▸ hi))
  r := h.r
theorem ff_le (h : McW m) (l : Int) : ffM m l ≤ m.st.length + 1 ∧ (valL m.vs l = 2 → ffM m l ≤ m.st.length) ∧ (valL m.vs l ≠ 2 → ffM m l = m.st.length + 1) := by
  have h2 : valL m.vs l = 2 → ffM m l ≤ m.st.length := fun hv => by
    unfold ffM
    rw [if_pos hv]
    obtain ⟨p, hp, e⟩ := tr_mem_pos ((h.vf l).1 hv)
    rw [← plc_ng l, ← e, h.lvl p hp]
    exact List.countP_le_length
  have h3 : valL m.vs l ≠ 2 → ffM m l = m.st.length + 1 := fun hv => by unfold ffM; rw [if_neg hv]
  refine ⟨?_, h2, h3⟩
  by_cases hv : valL m.vs l = 2
  · have := h2 hv; omega
  · rw [h3 hv]; exact Nat.le_refl _
/-- Where one of those from p on is false that is false last of them, all are. -/
theorem allF_ff (h : McW m) {c : List Int} {p : Nat} (hm : ∀ j, p ≤ j → j < c.length → ffM m (c.getD j 0) ≤ ffM m (c.getD p 0)) (hv : valL m.vs (c.getD p 0) = 2) : ∀ j, p ≤ j → j < c.length → -(c.getD j 0) ∈ m.tr := fun j h1 h2 => by
  refine (h.vf _).1 (Classical.byContradiction fun hn => ?_)
  have e1 := (ff_le h (c.getD j 0)).2.2 hn
  have e2 := (ff_le h (c.getD p 0)).2.1 hv
  have := hm j h1 h2
  omega
theorem mem_of_getD {c : List Int} {l : Int} (h : l ∈ c) : ∃ j, j < c.length ∧ c.getD j 0 = l := mem_getD h

/-- A clause is watched from now on by two literals that are not false. -/
theorem McI.settle (h : McI m) (ht : m.told = m.tr.length) {td' : List Nat} {i : Nat} (htd : m.td = td' ++ [i]) {c c2 : List Int} (hc : m.cl i = some c) (hp : c2.Perm c) (hb0 : ∀ j, j < c2.length → ffM m (c2.getD j 0) ≤ ffM m (c2.getD 0 0)) (hb1 : ∀ j, 1 ≤ j → j < c2.length → ffM m (c2.getD j 0) ≤ ffM m (c2.getD 1 0)) {b : Bool} {m' : Mc} (hP : SetP m i c2 b m') :
    McX m m' ∧ m'.told = m.told ∧ m'.td = m.td ∧ ((b = false ∧ McI m' ∧ ∃ d, m'.cl i = some d ∧ ∀ l ∈ d, -l ∈ m'.tr) ∨ (b = true ∧ McI { m' with td := td' })) := by
  have hi : i ∈ m.td := by rw [htd]; simp
  have h1 := h.putTd hc hi hp
  have hx1 : McX m (Proofs.Ytmlgpnaikdpifaa.putCl m i c2) := McX.putCl hc hp
  have hcl1 : (Proofs.Ytmlgpnaikdpifaa.putCl m i c2).cl i = some c2 := putCl_cl _ _ _
  obtain ⟨hnw, hnl⟩ := h.l.cl_of_F hi
  have hnd : td'.Nodup ∧ i ∉ td' := by
    have := h.l.tdn
    rw [htd, List.nodup_append] at this
    exact ⟨this.1, fun hm => this.2.2 i hm i (by simp) rfl⟩
  have hin : ∀ j, j ∉ td' → j ≠ i → j ∉ m.td := fun j k1 k2 hm => by
    rw [htd, List.mem_append, List.mem_singleton] at hm
    exact hm.elim k1 k2
  have hout : ∀ j, j ∈ td' → j ∈ m.td := fun j hj => by rw [htd]; simp [hj]
  unfold SetP at hP
  match c2, hP, hp, hb0, hb1, h1, hx1, hcl1 with
  | [], ⟨hb, hm'⟩, _, _, _, h1, hx1, hcl1 =>
    subst hm'
    exact ⟨hx1, rfl, rfl, .inl ⟨hb, h1, [], hcl1, by simp⟩⟩
  | a :: r, .inl ⟨hv, hb, hm'⟩, _, hb0, _, h1, hx1, hcl1 =>
    subst hm'
    refine ⟨hx1, rfl, rfl, .inl ⟨hb, h1, a :: r, hcl1, fun l hl => ?_⟩⟩
    obtain ⟨j, hj, rfl⟩ := mem_of_getD hl
    exact allF_ff h.w (p := 0) (fun j _ hj => hb0 j hj) hv j (Nat.zero_le _) hj
  | [a], .inr ⟨hv, hb, hm'⟩, _, _, _, h1, hx1, hcl1 =>
    have S := onlyM_spec h1.w hcl1 hv (by simp) 0 h1.l.ltN (hnl _)
    have hx2 := McX.only (o := 0) h1.w hcl1 hv
    have hm2 : m' = onlyM (Proofs.Ytmlgpnaikdpifaa.putCl m i [a]) i a 0 := hm'
    rw [← hm2] at S hx2
    refine ⟨hx1.trans hx2, S.told, S.td, .inr ⟨hb, ?_⟩⟩
    obtain ⟨e, he⟩ := S.tr
    refine { w := S.w.lists, l := ?_, s := fun j hj => ?_, r := fun j hj v hk => ?_ }
    · refine { tdn := hnd.1, tdF := fun j hj => ⟨hj, ?_⟩, ltN := S.ltN, ltc := fun v j hj => ?_, wtN := fun j => by show (m'.wt j).Nodup; rw [S.wt]; exact h1.l.wtN j, wtc := fun v j hj => ?_, wtd := fun j d hd hf => ?_ }
      · have : m'.cl j = (Proofs.Ytmlgpnaikdpifaa.putCl m i [a]).cl j := by rw [S.cl]
        show ∃ c, m'.cl j = some c
        rw [this]
        exact (h1.l.tdF j (hout j hj)).2
      · have hj' : j ∈ m'.lt v := hj
        rw [S.lt] at hj'
        show j ∉ td' ∧ ∃ a r, m'.cl j = some (a :: r) ∧ plc a = v ∧ a ∈ m'.tr
        rw [S.cl]
        rcases hj' with hj' | ⟨rfl, rfl, _⟩
        · obtain ⟨k1, a', r', k2, k3, k4⟩ := h1.l.ltc v j hj'
          exact ⟨fun hm => k1 (hout j hm), a', r', k2, k3, by rw [he]; exact List.mem_append_left _ k4⟩
        · exact ⟨hnd.2, a, [], hcl1, rfl, S.mem⟩
      · have hj' : j ∈ m'.wt v := hj
        rw [S.wt] at hj'
        show j ∉ td' ∧ ∃ a b r, m'.cl j = _ ∧ _
        rw [S.cl]
        obtain ⟨k1, k2⟩ := h1.l.wtc v j hj'
        exact ⟨fun hm => k1 (hout j hm), k2⟩
      · have hd' : m'.cl j = some d := hd
        rw [S.cl] at hd'
        show d ≠ [] ∧ ∀ a b r, d = a :: b :: r → j ∈ m'.wt (wx a) ∧ j ∈ m'.wt (wx b)
        rw [S.wt]
        by_cases ej : j = i
        · subst ej
          rw [hcl1] at hd'
          injection hd' with hd'
          subst hd'
          exact ⟨by simp, fun _ _ _ e => by simp at e⟩
        · exact h1.l.wtd j d hd' (hin j hf ej)
    · have ht' : ({ m' with td := td' } : Mc).told = m.told := S.told
      rw [ht']
      by_cases ej : j = i
      · subst ej
        intro d hd
        have hd' : m'.cl j = some d := hd
        rw [S.cl, hcl1] at hd'
        injection hd' with hd'
        subst hd'
        refine ⟨S.mem, ?_⟩
        show j ∈ m'.lt (plc a) ↔ 0 < m'.lv (plc a)
        rw [S.lt]
        exact ⟨fun hm => hm.elim (fun hm => (hnl _ hm).elim) (fun hm => hm.2.2), fun hm => .inr ⟨rfl, rfl, hm⟩⟩
      · exact (S.sm m.told j (by show m.told ≤ m.tr.length; omega) ej (h1.s j (hin j hj ej))).lt' (wt := m'.wt) (lt := m'.lt) (td := td') (fun v => Iff.rfl)
    · rcases S.rs v j hk with hk | rfl
      · exact h1.r j (hout j hj) v hk
      · exact hnd.2 hj
  | a :: y :: r, .inr ⟨hv, hb, hm'⟩, _, _, hb1, h1, hx1, hcl1 =>
    obtain ⟨n1, n2, n3⟩ := h1.w.clsne hcl1
    -- watched by both
    have hwt : ∀ v z, z ∈ (wat (wat (Proofs.Ytmlgpnaikdpifaa.putCl m i (a :: y :: r)) i a) i y).wt v ↔ z ∈ m.wt v ∨ (z = i ∧ (v = wx a ∨ v = wx y)) := fun v z => by
      have wne : wx y ≠ wx a := fun e => n1 (wx_inj e).symm
      show z ∈ upd (upd m.wt (wx a) (m.wt (wx a) ++ [i])) (wx y) (upd m.wt (wx a) (m.wt (wx a) ++ [i]) (wx y) ++ [i]) v ↔ _
      rw [upd_ne m.wt _ wne]
      unfold upd
      by_cases e1 : v = wx y
      · subst e1; rw [if_pos rfl, List.mem_append, List.mem_singleton]; simp
      · rw [if_neg e1]
        by_cases e2 : v = wx a
        · subst e2; rw [if_pos rfl, List.mem_append, List.mem_singleton]; simp
        · rw [if_neg e2]; simp [e1, e2]
    have hwN : ∀ v, ((wat (wat (Proofs.Ytmlgpnaikdpifaa.putCl m i (a :: y :: r)) i a) i y).wt v).Nodup := fun v => by
      have wne : wx y ≠ wx a := fun e => n1 (wx_inj e).symm
      show (upd (upd m.wt (wx a) (m.wt (wx a) ++ [i])) (wx y) (upd m.wt (wx a) (m.wt (wx a) ++ [i]) (wx y) ++ [i]) v).Nodup
      rw [upd_ne m.wt _ wne]
      have hap : ∀ u, (m.wt u ++ [i]).Nodup := fun u => by
        rw [List.nodup_append]
        exact ⟨h.l.wtN u, by simp, fun z hz q hq e => by simp at hq; subst hq; subst e; exact hnw u hz⟩
      unfold upd
      split
      · exact hap _
      · split
        · exact hap _
        · exact h.l.wtN v
    have hw2 : McW (wat (wat (Proofs.Ytmlgpnaikdpifaa.putCl m i (a :: y :: r)) i a) i y) := ⟨h1.w.n, h1.w.vl, h1.w.vv, h1.w.tv, h1.w.one, h1.w.told, h1.w.sorted, h1.w.lt, h1.w.lvl, h1.w.mps, h1.w.cls, h1.w.rs0, h1.w.dec, h1.w.rsn⟩
    have hx2 : McX m (wat (wat (Proofs.Ytmlgpnaikdpifaa.putCl m i (a :: y :: r)) i a) i y) := hx1.trans (McX.of rfl rfl rfl rfl rfl rfl rfl)
    have hlists : ∀ (m2 : Mc), m2.cl = (Proofs.Ytmlgpnaikdpifaa.putCl m i (a :: y :: r)).cl → m2.wt = (wat (wat (Proofs.Ytmlgpnaikdpifaa.putCl m i (a :: y :: r)) i a) i y).wt → (∀ l ∈ m.tr, l ∈ m2.tr) → (∀ v, (m2.lt v).Nodup) → (∀ v j, j ∈ m2.lt v → j ∈ m.lt v ∨ (j = i ∧ v = plc a ∧ a ∈ m2.tr)) → McL { m2 with td := td' } (· ∈ td') := fun m2 e1 e2 e3 e4 e5 => by
      refine { tdn := hnd.1, tdF := fun j hj => ⟨hj, ?_⟩, ltN := e4, ltc := fun v j hj => ?_, wtN := fun v => by show (m2.wt v).Nodup; rw [e2]; exact hwN v, wtc := fun v j hj => ?_, wtd := fun j d hd hf => ?_ }
      · show ∃ c, m2.cl j = some c
        rw [e1]
        exact (h1.l.tdF j (hout j hj)).2
      · show j ∉ td' ∧ ∃ a r, m2.cl j = some (a :: r) ∧ plc a = v ∧ a ∈ m2.tr
        rw [e1]
        rcases e5 v j hj with hj' | ⟨rfl, rfl, ha⟩
        · obtain ⟨k1, a', r', k2, k3, k4⟩ := h1.l.ltc v j hj'
          exact ⟨fun hm => k1 (hout j hm), a', r', k2, k3, e3 _ k4⟩
        · exact ⟨hnd.2, a, _, hcl1, rfl, ha⟩
      · have hj' : j ∈ m2.wt v := hj
        rw [e2, hwt] at hj'
        show j ∉ td' ∧ ∃ a b r, m2.cl j = _ ∧ _
        rw [e1]
        rcases hj' with hj' | ⟨rfl, hv'⟩
        · obtain ⟨k1, k2⟩ := h1.l.wtc v j hj'
          exact ⟨fun hm => k1 (hout j hm), k2⟩
        · exact ⟨hnd.2, a, y, r, hcl1, hv'⟩
      · have hd' : m2.cl j = some d := hd
        rw [e1] at hd'
        show d ≠ [] ∧ ∀ a b r, d = a :: b :: r → j ∈ m2.wt (wx a) ∧ j ∈ m2.wt (wx b)
        rw [e2]
        by_cases ej : j = i
        · subst ej
          rw [hcl1] at hd'
          injection hd' with hd'
          subst hd'
          refine ⟨by simp, fun a' b' r' e => ?_⟩
          injection e with q1 e
          injection e with q2 _
          subst q1; subst q2
          exact ⟨(hwt _ _).2 (.inr ⟨rfl, .inl rfl⟩), (hwt _ _).2 (.inr ⟨rfl, .inr rfl⟩)⟩
        · obtain ⟨k1, k2⟩ := h1.l.wtd j d hd' (hin j hf ej)
          exact ⟨k1, fun a' b' r' ec => ⟨(hwt _ _).2 (.inl (k2 a' b' r' ec).1), (hwt _ _).2 (.inl (k2 a' b' r' ec).2)⟩⟩
    rcases hm' with ⟨hy, hm'⟩ | ⟨hy, hm'⟩
    · have hf1 : ∀ l ∈ y :: r, -l ∈ m.tr := fun l hl => by
        obtain ⟨j, hj, rfl⟩ := mem_of_getD hl
        have := allF_ff h.w (c := a :: y :: r) (p := 1) hb1 hy (j + 1) (by omega) (by simp at hj ⊢; omega)
        simpa using this
      have S := onlyM_spec hw2 (i := i) (a := a) (r := y :: r) hcl1 hv hf1 (m.lv (plc y)) h1.l.ltN (hnl _)
      have hx3 := McX.only (i := i) (o := m.lv (plc y)) hw2 (a := a) (r := y :: r) hcl1 hv
      rw [← hm'] at S hx3
      refine ⟨hx2.trans hx3, S.told, S.td, .inr ⟨hb, ?_⟩⟩
      obtain ⟨e, he⟩ := S.tr
      have hem : ∀ l ∈ m.tr, l ∈ m'.tr := fun l hl => by rw [he]; exact List.mem_append_left _ hl
      refine { w := S.w.lists, l := hlists m' S.cl S.wt hem S.ltN (fun v j hj => ((S.lt v j).1 hj).imp id (fun k => ⟨k.1, k.2.1, S.mem⟩)), s := fun j hj => ?_, r := fun j hj v hk => ?_ }
      · have ht' : ({ m' with td := td' } : Mc).told = m.told := S.told
        rw [ht']
        by_cases ej : j = i
        · subst ej
          intro d hd
          have hd' : m'.cl j = some d := hd
          rw [S.cl] at hd'
          have hd2 : some (a :: y :: r) = some d := hcl1.symm.trans hd'
          injection hd2 with hd2
          subst hd2
          have htk : m'.tr.take m.told = m.tr := by rw [he]; show (m.tr ++ e).take m.told = _; rw [ht, List.take_left]
          show -a ∉ m'.tr.take m.told ∧ (j ∈ m'.lt (plc a) ↔ -y ∈ m'.tr.take m.told ∧ m'.lv (plc y) < m'.lv (plc a)) ∧ (-y ∈ m'.tr.take m.told → a ∈ m'.tr)
          rw [htk]
          have hay : m'.lv (plc y) = m.lv (plc y) := by rw [← plc_ng y]; exact S.lv _ (hf1 y (by simp))
          refine ⟨fun hm => hv ((h.w.vf a).2 hm), ?_, fun _ => S.mem⟩
          rw [S.lt, hay]
          exact ⟨fun hm => hm.elim (fun hm => (hnl _ hm).elim) (fun hm => ⟨hf1 y (by simp), hm.2.2⟩), fun hm => .inr ⟨rfl, rfl, hm.2⟩⟩
        · have hs := (h1.s j (hin j hj ej))
          have hs2 : Sm (wat (wat (Proofs.Ytmlgpnaikdpifaa.putCl m i (a :: y :: r)) i a) i y) m.told j := fun d hd => hs d hd
          exact (S.sm m.told j (by show m.told ≤ m.tr.length; omega) ej hs2).lt' (wt := m'.wt) (lt := m'.lt) (td := td') (fun v => Iff.rfl)
      · rcases S.rs v j hk with hk | rfl
        · exact h1.r j (hout j hj) v hk
        · exact hnd.2 hj
    · rw [hm']
      refine ⟨hx2, rfl, rfl, .inr ⟨hb, ?_⟩⟩
      refine { w := hw2.lists, l := hlists _ rfl rfl (fun _ hl => hl) h1.l.ltN (fun v j hj => .inl hj), s := fun j hj => ?_, r := fun j hj v hk => h1.r j (hout j hj) v hk }
      show Sm _ m.told j
      by_cases ej : j = i
      · subst ej
        intro d hd
        have hd2 : some (a :: y :: r) = some d := hcl1.symm.trans hd
        injection hd2 with hd2
        subst hd2
        exact ⟨fun hm => hv ((h.w.vf a).2 (List.mem_of_mem_take hm)), ⟨fun hm => (hnl _ hm).elim, fun hm => (hy ((h.w.vf y).2 (List.mem_of_mem_take hm.1))).elim⟩, fun hm => (hy ((h.w.vf y).2 (List.mem_of_mem_take hm))).elim⟩
      · have hs := (h1.s j (hin j hj ej))
        exact fun d hd => hs d hd
end
end Go.Proofs.Ytmlgpnaikdpifaa

namespace Go.Proofs.Ytmlgpnaikdpifaa
open Go.RowKit

theorem pig {l : List Nat} {N : Nat} (h : l.Nodup) (hl : ∀ x ∈ l, x < N) : l.length ≤ N := by
  have := h.length_le_of_subset (l₂ := List.range N) (fun x hx => List.mem_range.2 (hl x hx))
  rwa [List.length_range] at this
theorem pigV {l : List Int} {N : Nat} (h : l.Pairwise fun x y => plc x ≠ plc y) (hl : ∀ x ∈ l, 1 ≤ plc x ∧ plc x ≤ N) : l.length ≤ N := by
  have h1 : (l.map fun x => plc x - 1).Nodup := by
    unfold List.Nodup
    rw [List.pairwise_map]
    refine h.imp_of_mem fun ha hb hne e => hne ?_
    have h1 := hl _ ha
    have h2 := hl _ hb
    omega
  have := pig (N := N) h1 (fun x hx => by
    obtain ⟨y, hy, rfl⟩ := List.mem_map.1 hx
    have := hl y hy
    omega)
  rwa [List.length_map] at this
section
variable {m : Mc}
theorem McW.tr_len (h : McW m) : m.tr.length ≤ m.n := pigV h.one fun _ hx => h.rgt hx
theorem McW.st_len (h : McW m) : m.st.length ≤ m.n := by
  have := pig (N := m.tr.length) (h.sorted.imp fun hlt => Nat.ne_of_lt hlt) h.lt
  have := h.tr_len
  omega
theorem McW.cl_one (h : McW m) {i : Nat} {c : List Int} (hc : m.cl i = some c) : c.Pairwise fun x y => plc x ≠ plc y := by
  obtain ⟨_, h2, h3⟩ := h.cls i c hc
  unfold List.Nodup at h2
  refine h2.imp_of_mem fun ha hb hne e => ?_
  rcases plc_pm e with e | e
  · exact hne e
  · exact (h3 _ hb).2 (by rw [← e]; exact ha)
theorem McW.cl_len (h : McW m) {i : Nat} {c : List Int} (hc : m.cl i = some c) : c.length ≤ m.n := pigV (h.cl_one hc) fun x hx => ((h.cls i c hc).2.2 x hx).1
theorem McW.cl_lit (h : McW m) {i : Nat} {c : List Int} (hc : m.cl i = some c) : (∀ l ∈ c, plc l ≤ m.n) ∧ c.length ≤ 1000000 := ⟨fun l hl => ((h.cls i c hc).2.2 l hl).1.2, by have := h.cl_len hc; have := h.n; omega⟩
theorem lst_of {F : Nat → Prop} (h : McW m) (l : McL m F) (hn : m.nx ≤ 1000000) : Lst m where
  wt := fun j x hx => by obtain ⟨_, a, b, r, h1, _⟩ := l.wtc j x hx; exact ⟨_, h1⟩
  lt := fun j x hx => by obtain ⟨_, a, r, h1, _⟩ := l.ltc j x hx; exact ⟨_, h1⟩
  wl := fun j => by
    have := pig (N := m.nx) (l.wtN j) fun x hx => by obtain ⟨_, a, b, r, h1, _⟩ := l.wtc j x hx; exact (h.cls x _ h1).1
    omega
  ll := fun j => by
    have := pig (N := m.nx) (l.ltN j) fun x hx => by obtain ⟨_, a, r, h1, _⟩ := l.ltc j x hx; exact (h.cls x _ h1).1
    omega
theorem lst_len {F : Nat → Prop} (h : McW m) (l : McL m F) : (∀ j, (m.wt j).length ≤ m.nx) ∧ (∀ j, (m.lt j).length ≤ m.nx) ∧ m.td.length ≤ m.nx :=
  ⟨fun j => pig (l.wtN j) fun x hx => by obtain ⟨_, a, b, r, h1, _⟩ := l.wtc j x hx; exact (h.cls x _ h1).1,
   fun j => pig (l.ltN j) fun x hx => by obtain ⟨_, a, r, h1, _⟩ := l.ltc j x hx; exact (h.cls x _ h1).1,
   pig l.tdn fun x hx => by obtain ⟨_, c, h1⟩ := l.tdF x hx; exact (h.cls x _ h1).1⟩
end

/-! ### Rows -/
/-- 'append(v, y)' where there is room, y just laid in a new block. -/
theorem wpList_appIn {ops : Array Oper} {rest : List Oper} {o : Oper} {a : Act} {Q : Exit → Act → World → Prop} (T E : TypeId) (z : Value) (bytes : Nat) (hT : Try.prog.underlying T = some (.slice E))
    (hE : (Try.prog.info? E).map (fun i => (i.zero, i.size, i.bytes)) = some (some z, 1, bytes)) (hgd : o.guard = none) (s x : Operand)
    (ho : o.op = .call { callee := .builtin .append, args := #[s, x], argTypes := #[T, T] })
    (wr : World) (g n cap : Nat) (y : Value) (hy : y.oneCell' = true) (hn : n + 1 ≤ cap) (hg : g < wr.heap.size) (hc : (wr.cell? ⟨g, n, none⟩).isSome = true) (hf : wr.frozen? ⟨g, n, none⟩ = false)
    (nb : Nat) (hnb : nb = wr.heap.size) (hs : a.eval s = .slice (some ⟨g, 0, none⟩) n cap) (hx : a.eval x = .slice (some ⟨nb, 0, none⟩) 1 1)
    (h : wpList Try.prog ops Q rest (a.put o.dst (.slice (some ⟨g, 0, none⟩) (n + 1) cap)) ((wr.alloc (.cells #[y] E)).setCell ⟨g, n, none⟩ y)) :
    wpList Try.prog ops Q (o :: rest) a (wr.alloc (.cells #[y] E)) := by
  subst hnb
  obtain ⟨i0, hi, hz0, hz1, hz2⟩ := info_parts hE
  have hb := Below.heap_alloc wr (.cells #[y] E) _ hg
  refine wpList_plain hgd fun K hK => ?_
  have hrun := run_append_room_cells (P := Try.prog) (wr.alloc (.cells #[y] E)) T o.type E i0 hT hi g 0 n cap ⟨wr.heap.size, 0, none⟩ 1 1 [y] (by rw [hz1]; rfl) (fun j u hj => by
    match j, hj with
    | 0, hj => simp at hj; subst hj; simp [Addr.add]) (fun u hu => by simp at hu; subst hu; exact hy) hn (fun j hj => by
      obtain rfl : j = 0 := by simp at hj; exact hj
      rw [hz1, Nat.mul_one, Nat.zero_add, Nat.add_zero, World.cell?_of_block (a := ⟨g, n, none⟩) hb]; exact hc) (fun j hj => by
      obtain rfl : j = 0 := by simp at hj; exact hj
      rw [hz1, Nat.mul_one, Nat.zero_add, Nat.add_zero, World.frozen?_of_block (a := ⟨g, n, none⟩) hb]; exact hf)
  rw [hz1, Nat.mul_one, Nat.zero_add] at hrun
  unfold Oper.wp execOp
  simp only [ho, resolve, invoke, builtin, Sem.run_bind, Sem.run_pure, Result.andThen_ok, List.map_toArray, List.map_cons, List.map_nil, hs, hx, hrun]
  exact hK _ _ h
theorem run_clear_none (w : World) (ty : TypeId) (a : Option Addr) (c : Nat) : (Builtin.clear_ #[69] ty #[.slice a 0 c]).run Try.prog w = .ok (.tuple #[]) w := by
  cases a <;> simp [Builtin.clear_, run_underlying Try.underlying69, Result.andThen, storeCells, Builtin.zeroCells]
section
variable {w w' : World} {ρ ρ' : Nat → Option Rl} {L : Lay} {m : Mc}
theorem Part.of_only (h : MA w ρ L m) {b : Nat} {r0 : Rl} (hr : ρ b = some r0) (ho : Only b w w') : Part w' ρ L m r0 := ⟨h.lt' ho.size, h.hi, fun _ hne => h.rest hr ho hne⟩
theorem only_setCells (b : Nat) : ∀ (xs : List Value) (o : Nat) (w : World), Only b w (w.setCells b o xs)
  | [], _, w => Only.refl b w
  | v :: r, o, w => (Only.setCell w b o v).trans (only_setCells b r (o + 1) _)
theorem own_beyonds {B : Nat} {e : TypeId} {g n cap : Nat} {ys : List Value} : ∀ (xs : List Value) (o : Nat) (w : World), w.ownsRow B e 1 (.slice (some ⟨g, 0, none⟩) n cap) n ys → n ≤ o → (w.setCells g o xs).ownsRow B e 1 (.slice (some ⟨g, 0, none⟩) n cap) n ys
  | [], _, _, h, _ => h
  | v :: r, o, w, h, hn => own_beyonds r (o + 1) _ (own_beyond h o v hn) (by omega)
/-- A row of those that watch is written in place. -/
theorem MA.wset (h : MA w ρ L m) {j g N cap : Nat} (e : L.wv j = .slice (some ⟨g, 0, none⟩) N cap) (q i : Nat) (hq : q < (m.wt j).length) : MA (w.setCell ⟨g, q, none⟩ (ptrC L i)) ρ L { m with wt := upd m.wt j ((m.wt j).set q i) } where
  lt := h.lt' (Only.setCell _ _ _ _).size
  hi := h.hi
  at' := fun r => by
    have hg : ρ g = some (.w j) := (h.at' (.w j)).2 g (by rw [e]; rfl)
    have hk : r ≠ .w j → At ρ (w.setCell ⟨g, q, none⟩ (ptrC L i)) L m r := fun hne => h.rest hg (Only.setCell _ _ _ _) hne
    cases r with
    | w j' =>
      by_cases ej : j' = j
      · subst ej
        have ho := (h.at' (.w j')).1
        have hN : N = (m.wt j').length := by
          obtain ⟨a', c', e', _⟩ := own_shape ho
          rw [e] at e'
          injection e' with _ h2 _
          simpa using h2
        rw [e, List.length_map, ← hN] at ho
        have := own_setAt ho q (ptrC L i) (by rw [List.length_map]; exact hq)
        rw [← List.map_set] at this
        show RolA ρ _ (.w j') _ (L.wv j') ((upd m.wt j' _ j').map _)
        rw [upd_same]
        refine ⟨?_, (h.at' (.w j')).2⟩
        rw [List.length_map, List.length_set, ← hN, e]
        exact this
      · show RolA ρ _ (.w j') _ (L.wv j') ((upd m.wt j _ j').map _)
        rw [upd_ne _ _ ej]
        exact hk (fun e' => ej (by injection e'))
    | _ => exact hk (by nofun)
end
end Go.Proofs.Ytmlgpnaikdpifaa

namespace Go.Proofs.Ytmlgpnaikdpifaa
open Go.RowKit Go.Maps

theorem lawI : Keyed Try.prog 3 := int_keyed Try.underlying3
theorem keyI (v : Int) (h1 : -9223372036854775808 ≤ v) (h2 : v ≤ 9223372036854775807) : keyOf Try.prog 3 (.int .i64 v) = some (.int .i64 v) :=
  keyOf_int_mk Try.underlying3 (WalkArith.wf_i64 ⟨by omega, by omega⟩)
section
variable {w : World} {ρ : Nat → Option Rl} {L : Lay} {m : Mc}
/-- 'p.clauses[id]'. -/
theorem MA.look (h : MA w ρ L m) (hm : ∀ i, m.mp i = (m.cl i).isSome) (i : Int) (h1 : -9223372036854775808 ≤ i) (h2 : i ≤ 9223372036854775807) :
    (∃ c, 0 ≤ i ∧ m.cl i.toNat = some c ∧ (Instr.lookup 68 (.map (some L.mb)) (.int .i64 i) false).run Try.prog w = .ok (ptrC L i.toNat) w) ∨
    ((i < 0 ∨ m.cl i.toNat = none) ∧ (Instr.lookup 68 (.map (some L.mb)) (.int .i64 i) false).run Try.prog w = .ok (.pointer none) w) := by
  obtain ⟨N, D, ho, _, hD⟩ := (h.at' .mp).2
  obtain ⟨v, ps, hrun, hv⟩ := ho.lookup lawI Try.underlying68 (zeroPc w) (zd := .nil) (zp := []) rfl (keyI i h1 h2)
  rw [hD i h1 h2] at hv
  unfold atC at hv
  by_cases hc : 0 ≤ i ∧ m.mp i.toNat = true
  · rw [if_pos hc] at hv
    rw [hm] at hc
    obtain ⟨c, hcl⟩ := Option.isSome_iff_exists.1 hc.2
    exact .inl ⟨c, hc.1, hcl, by rw [hrun, ptrElem_inv hv]; rfl⟩
  · rw [if_neg hc] at hv
    refine .inr ⟨?_, by rw [hrun, ptrElem_inv_nil hv]⟩
    rw [hm] at hc
    rcases Int.lt_or_le i 0 with h0 | h0
    · exact .inl h0
    · right
      cases hcl : m.cl i.toNat with
      | none => rfl
      | some c => rw [hcl] at hc; exact absurd ⟨h0, rfl⟩ hc

set_option maxRecDepth 8000 in
set_option maxHeartbeats 2000000 in
theorem mtrl_any (h : MA w ρ L m) (ht : m.tr.length ≤ 4000) :
    Calls Try.prog 48 #[ptrP L] w fun e w' => (∃ u, e = .returned u ∧ w'.ownsRow w.heap.size 3 1 u m.tr.length (m.tr.map (Value.int .i64))) ∧ Below w.heap.size w w' := by
  have c2 := h.pc.c2
  have hr : Row w L.trv m.tr := own_row (h.at' .tr).1
  obtain ⟨a, c, e, _⟩ := ro_shape (h.at' .tr)
  have HC := Lib.hid (cloneI_any L.trv m.tr w hr (by omega))
  rw [List.length_map] at e
  rw [e] at c2 HC
  clear h hr e
  unfold ptrP
  go_enter Try.func48, Try.ntmps48
  go_wp2_with fail
  refine HC.out.mono ?_
  rintro e w1 ⟨⟨u, rfl, ho⟩, hb⟩
  have HO := Lib.hid ho
  have HB := Lib.hid hb
  obtain ⟨a1, c1, rfl, _⟩ := own_shape ho
  clear ho hb
  go_wp2_with fail
  go_ret
  exact ⟨⟨_, rfl, HO.out⟩, HB.out⟩

set_option maxRecDepth 8000 in
set_option maxHeartbeats 2000000 in
theorem mcls_any (h : MA w ρ L m) (hw : McW m) (i : Int) (h1 : -9223372036854775808 ≤ i) (h2 : i ≤ 9223372036854775807) :
    Calls Try.prog 60 #[ptrP L, .int .i64 i] w fun e w' => (∃ u, e = .returned u ∧ Row w' u (if i < 0 then [] else (m.cl i.toNat).getD [])) ∧ Below w.heap.size w w' := by
  have c5 := h.pc.c5
  unfold ptrP
  rcases h.look hw.mps i h1 h2 with ⟨c, h0, hc, hrun⟩ | ⟨hc, hrun⟩
  · rw [show ptrC L i.toNat = .pointer (some ⟨L.cb i.toNat, 0, none⟩) from rfl] at hrun
    have q1 := (h.cells hc).2
    have ho := h.lit hc
    obtain ⟨a, cc, e, _⟩ := own_shape ho
    have HE : Hid ((if i < 0 then [] else (m.cl i.toNat).getD []) = c) := by unfold Hid; rw [if_neg (by omega), hc]; rfl
    have HC := Lib.hid (cloneI_any (L.cv i.toNat) c w (own_row ho) (hw.cl_lit hc).2)
    rw [e] at q1 HC
    rw [HE.out]
    clear h ho e hc
    generalize L.cb i.toNat = b at *
    go_enter Try.func60, Try.ntmps60
    go_wp2_with fail
    refine HC.out.mono ?_
    rintro e w1 ⟨⟨u, rfl, ho⟩, hb⟩
    have HO := Lib.hid ho
    have HB := Lib.hid hb
    obtain ⟨a1, c1, rfl, _⟩ := own_shape ho
    clear ho hb
    go_wp2_with fail
    go_ret
    exact ⟨⟨_, rfl, own_row HO.out⟩, HB.out⟩
  · have HE : Hid ((if i < 0 then [] else (m.cl i.toNat).getD []) = ([] : List Int)) := by
      unfold Hid
      rcases hc with hc | hc
      · rw [if_pos hc]
      · rw [hc]; simp
    rw [HE.out]
    clear h hc
    go_enter Try.func60, Try.ntmps60
    go_wp2_with fail
    go_ret
    exact ⟨⟨_, rfl, own_row (xs := []) (World.ownsRow_nil w 0 3 1)⟩, Below.refl _ _⟩

end
end Go.Proofs.Ytmlgpnaikdpifaa

namespace Go.Proofs.Ytmlgpnaikdpifaa
open Go.RowKit

def hatM (m : Mc) (x : Int) (W : List Nat) : Mc := { m with wt := upd m.wt (wx x) W }
theorem onlyM_hat (m : Mc) (x : Int) (W : List Nat) (i : Nat) (a : Int) (o : Nat) : onlyM (hatM m x W) i a o = hatM (onlyM m i a o) x W := by
  have hA : onlyA (hatM m x W) i a = hatM (onlyA m i a) x W := by
    show (if valL m.vs a = 0 then _ else _) = hatM (if valL m.vs a = 0 then _ else _) x W
    split <;> rfl
  unfold onlyM
  rw [hA]
  show (if o < (onlyA m i a).lv (plc a) then _ else _) = hatM (if o < (onlyA m i a).lv (plc a) then _ else _) x W
  split <;> rfl
/-- How far tell has come: k of those that watch are gone through. -/
structure TeI (w : World) (ρ : Nat → Option Rl) (L : Lay) (m : Mc) (x : Int) (k : Nat) (kept wrong : List Nat) (vw : Value) (wr : World) (ρ1 : Nat → Option Rl) (L1 : Lay) (mr : Mc) : Prop where
  chr : Chr ρ w ρ1 wr
  lay : LayE L L1
  wv : L1.wv (wx x) = L.wv (wx x)
  ma : MA wr ρ1 L1 mr
  loc : LocR ρ1 wr L vw wrong
  new : ∀ b, vw.ownBlock = some b → w.heap.size ≤ b
  raw : mr.wt (wx x) = kept ++ (m.wt (wx x)).drop kept.length
  le : kept.length ≤ k
  ti : TI (hatM mr x (kept ++ (m.wt (wx x)).drop k)) x ((m.wt (wx x)).drop k) wrong
  x : McX m mr
  td : mr.td = m.td
  told : mr.told = m.told
def TellR (w : World) (ρ : Nat → Option Rl) (L : Lay) (m : Mc) (v : Value) (wrong : List Nat) (w' : World) : Prop :=
  ∃ ρ' L' m', Chr ρ w ρ' w' ∧ LayE L L' ∧ MA w' ρ' L' m' ∧ McI m' ∧ McX m m' ∧ LocR ρ' w' L v wrong ∧ m'.td = m.td ++ wrong ∧ m'.told = m.told ∧ ∀ i ∈ wrong, ∃ c, m'.cl i = some c ∧ ∀ l ∈ c, -l ∈ m'.tr
section
variable {w wr : World} {ρ ρ1 : Nat → Option Rl} {L L1 : Lay} {m mr : Mc} {x : Int} {k : Nat} {kept wrong : List Nat} {vw : Value}
theorem TeI.drewN (h : TeI w ρ L m x k kept wrong vw wr ρ1 L1 mr) (t : Nat) : TeI w ρ L m x k kept wrong vw (wr.drewN t) ρ1 L1 mr :=
  { h with chr := h.chr.drewN t, ma := h.ma.drewN t, loc := h.loc.keep ((Chr.refl _ _).drewN t) }
theorem LocR.nil (ρ : Nat → Option Rl) (w : World) (L : Lay) : LocR ρ w L (.slice none 0 0) [] := ⟨World.ownsRow_nil _ _ _ _, fun k hk => by cases hk⟩
theorem TeI.start (h : MA w ρ L m) (hT : TI m x (m.wt (wx x)) []) : TeI w ρ L m x 0 [] [] (.slice none 0 0) w ρ L m where
  chr := Chr.refl _ _
  lay := LayE.refl _
  wv := rfl
  ma := h
  loc := LocR.nil _ _ _
  new := fun b hb => by cases hb
  raw := rfl
  le := Nat.le_refl _
  ti := by
    show TI (hatM m x (m.wt (wx x))) x (m.wt (wx x)) []
    unfold hatM
    rw [upd_self]; exact hT
  x := McX.refl _
  td := rfl
  told := rfl
theorem TeI.at' (_h : TeI w ρ L m x k kept wrong vw wr ρ1 L1 mr) (hk : k < (m.wt (wx x)).length) : (m.wt (wx x)).drop k = (m.wt (wx x)).getD k 0 :: (m.wt (wx x)).drop (k + 1) := by
  rw [List.drop_eq_getElem_cons hk]; simp [List.getD, hk]
theorem TeI.elem (h : TeI w ρ L m x k kept wrong vw wr ρ1 L1 mr) (hk : k < (m.wt (wx x)).length) : (mr.wt (wx x))[k]? = some ((m.wt (wx x)).getD k 0) := by
  have := h.le
  rw [h.raw, List.getElem?_append_right h.le, List.getElem?_drop, show kept.length + (k - kept.length) = k by omega]
  simp [List.getD, hk]
theorem TeI.rlen (h : TeI w ρ L m x k kept wrong vw wr ρ1 L1 mr) (hk : k ≤ (m.wt (wx x)).length) : (mr.wt (wx x)).length = (m.wt (wx x)).length := by
  have := h.le
  rw [h.raw, List.length_append, List.length_drop]; omega
/-- The two watched literals have changed places. -/
theorem TeI.swap (h : TeI w ρ L m x k kept wrong vw wr ρ1 L1 mr) {i : Nat} (hi : i ∈ (m.wt (wx x)).drop k) {b : Int} {r : List Int} (hc : mr.cl i = some (x :: b :: r)) {w2 : World} (hC : Chr ρ1 wr ρ1 w2) (hM : MA w2 ρ1 L1 (putCl mr i (b :: x :: r))) :
    TeI w ρ L m x k kept wrong vw w2 ρ1 L1 (putCl mr i (b :: x :: r)) :=
  { h with chr := h.chr.trans hC, ma := hM, loc := h.loc.keep hC, ti := h.ti.swap hi hc, x := h.x.trans (McX.putCl hc (List.Perm.swap ..)) }
theorem hat_hat (mr : Mc) (x : Int) (W W2 : List Nat) : hatM { mr with wt := upd mr.wt (wx x) W } x W2 = hatM mr x W2 := by
  unfold hatM
  have : upd (upd mr.wt (wx x) W) (wx x) W2 = upd mr.wt (wx x) W2 := by funext j; unfold upd; split <;> rfl
  rw [this]
/-- What the list's memory holds once one more is kept. -/
def putM (m : Mc) (x : Int) (kept : List Nat) (i : Nat) (mr : Mc) : Mc := { mr with wt := upd mr.wt (wx x) ((mr.wt (wx x)).set kept.length i) }
theorem TeI.raw2 (h : TeI w ρ L m x k kept wrong vw wr ρ1 L1 mr) (hk : k < (m.wt (wx x)).length) (i : Nat) : (putM m x kept i mr).wt (wx x) = (kept ++ [i]) ++ (m.wt (wx x)).drop (kept ++ [i]).length := by
  have hle := h.le
  show upd mr.wt (wx x) _ (wx x) = _
  rw [upd_same, h.raw, List.set_append_right _ _ (Nat.le_refl _), Nat.sub_self, List.length_append]
  have : (m.wt (wx x)).drop kept.length = (m.wt (wx x)).getD kept.length 0 :: (m.wt (wx x)).drop (kept.length + 1) := by
    rw [List.drop_eq_getElem_cons (show kept.length < (m.wt (wx x)).length by omega)]
    simp [List.getD, show kept.length < (m.wt (wx x)).length by omega]
  rw [this, List.set_cons_zero, List.append_assoc]; rfl
theorem TeI.kept2 (h : TeI w ρ L m x k kept wrong vw wr ρ1 L1 mr) (hk : k < (m.wt (wx x)).length) : (kept ++ [(m.wt (wx x)).getD k 0]) ++ (m.wt (wx x)).drop (k + 1) = kept ++ (m.wt (wx x)).drop k := by
  rw [h.at' hk, List.append_assoc]; rfl
/-- The memory behind 'kept = append(kept, c)'. -/
theorem TeI.store (h : TeI w ρ L m x k kept wrong vw wr ρ1 L1 mr) (hk : k < (m.wt (wx x)).length) {g N sc : Nat} (e : L.wv (wx x) = .slice (some ⟨g, 0, none⟩) N sc) (i : Nat) (o : Obj) :
    MA ((wr.alloc o).setCell ⟨g, kept.length, none⟩ (.pointer (some ⟨L.cb i, 0, none⟩))) ρ1 L1 (putM m x kept i mr) ∧ Chr ρ1 wr ρ1 ((wr.alloc o).setCell ⟨g, kept.length, none⟩ (.pointer (some ⟨L.cb i, 0, none⟩))) ∧ (wr.cell? ⟨g, kept.length, none⟩).isSome = true ∧ wr.frozen? ⟨g, kept.length, none⟩ = false ∧ g < wr.heap.size := by
  have hle := h.le
  have hrl := h.rlen (Nat.le_of_lt hk)
  have hb : Below wr.heap.size wr (wr.alloc o) := (Below.refl _ _).alloc (Nat.le_refl _) _
  have e1 : L1.wv (wx x) = .slice (some ⟨g, 0, none⟩) N sc := h.wv.trans e
  have h1 := (h.ma.below hb).wset e1 kept.length i (by omega)
  have hg : ρ1 g = some (.w (wx x)) := (h.ma.at' (.w (wx x))).2 g (by rw [e1]; rfl)
  rw [show ptrC L1 i = .pointer (some ⟨L.cb i, 0, none⟩) by rw [h.lay.ptr]; rfl] at h1
  have hrow := h.ma.own_w (wx x)
  have hN : N = (mr.wt (wx x)).length := by
    obtain ⟨a', c', e', _⟩ := own_shape hrow
    rw [e1] at e'
    injection e' with _ h2 _
  rw [e1, ← hN] at hrow
  obtain ⟨hc1, hc2⟩ := own_cap hrow
  exact ⟨h1, (Chr.of_below hb).setCell hg _, own_isSome hrow (by omega), own_frozen hrow _, (h.ma.lt _ _ hg)⟩
/-- The clause stays in the list. -/
theorem TeI.put (h : TeI w ρ L m x k kept wrong vw wr ρ1 L1 mr) (hk : k < (m.wt (wx x)).length) {w2 : World} {vw2 : Value} {wrong2 : List Nat} (hC : Chr ρ w ρ1 w2) (hM : MA w2 ρ1 L1 (putM m x kept ((m.wt (wx x)).getD k 0) mr)) (hloc : LocR ρ1 w2 L vw2 wrong2) (hnew : ∀ b, vw2.ownBlock = some b → w.heap.size ≤ b)
    (hT : TI (hatM mr x (kept ++ (m.wt (wx x)).drop k)) x ((m.wt (wx x)).drop (k + 1)) wrong2) : TeI w ρ L m x (k + 1) (kept ++ [(m.wt (wx x)).getD k 0]) wrong2 vw2 w2 ρ1 L1 (putM m x kept ((m.wt (wx x)).getD k 0) mr) := by
  have hle := h.le
  refine { h with chr := hC, ma := hM, loc := hloc, new := hnew, raw := h.raw2 hk _, le := by rw [List.length_append]; simp; omega, ti := ?_, x := h.x.trans (McX.of rfl rfl rfl rfl rfl rfl rfl) }
  unfold putM
  rw [hat_hat, h.kept2 hk]
  exact hT
/-- An append to the row beside. -/
theorem loc_app {W w5 : World} {v5 : Value} {n : Nat} {i : Nat} (hM : MA W ρ1 L1 mr) (hC : Chr ρ w ρ1 W) (hl : LocR ρ1 W L vw wrong) (hnew : ∀ b, vw.ownBlock = some b → w.heap.size ≤ b) (hap : App 0 W w5 vw v5) (ho : w5.ownsRow 0 73 1 v5 n ((wrong ++ [i]).map (ptrC L))) :
    MA w5 ρ1 L1 mr ∧ Chr ρ w ρ1 w5 ∧ LocR ρ1 w5 L v5 (wrong ++ [i]) ∧ ∀ b, v5.ownBlock = some b → w.heap.size ≤ b := by
  have hn : n = (wrong ++ [i]).length := by have := ho.1; rw [List.length_map] at this; omega
  subst hn
  refine ⟨hM.same hap.below.size (fun b r hb => hap.other b (hM.lt b r hb) (fun e => ?_)), ⟨hap.below.os.trans hC.os, hap.below.tape.trans hC.tape, hap.below.output.trans hC.output, Nat.le_trans hC.size hap.below.size, fun b hb hr => (hap.other b (Nat.lt_of_lt_of_le hb hC.size) (fun e => ?_)).trans (hC.block b hb hr), hC.old⟩, ⟨ho, fun b hb => ?_⟩, fun b hb => ?_⟩
  · rw [hl.2 b e.symm] at hb; cases hb
  · have := hnew b e.symm; omega
  · rcases hap.blk with e | ⟨g, e, hg⟩
    · exact hl.2 b (e ▸ hb)
    · rw [e] at hb
      injection hb with hb
      cases hr : ρ1 b with
      | none => rfl
      | some r => have := hM.lt b r hr; omega
  · rcases hap.blk with e | ⟨g, e, hg⟩
    · exact hnew b (e ▸ hb)
    · rw [e] at hb
      injection hb with hb
      have := hC.size
      omega
theorem onlyM_wt (i : Nat) (a : Int) (o : Nat) : (onlyM mr i a o).wt = mr.wt ∧ (onlyM mr i a o).td = mr.td ∧ (onlyM mr i a o).told = mr.told := by
  obtain ⟨_, _, _, h1, h2, h3⟩ := onlyA_same (m := mr) i a
  unfold onlyM
  split <;> exact ⟨h1, h2, h3⟩
/-- The clause's last literal that is not false has been made true. -/
theorem TeI.only (h : TeI w ρ L m x k kept wrong vw wr ρ1 L1 mr) (hk : k < (m.wt (wx x)).length) {i : Nat} (hi : (m.wt (wx x)).getD k 0 = i) {a : Int} {r : List Int} (hc : mr.cl i = some (a :: x :: r)) (hv : valL mr.vs a ≠ 2) (hr : ∀ l ∈ r, -l ∈ mr.tr) {w2 w3 : World} {ρ3 : Nat → Option Rl} {tv lv : Value} (hC : Chr ρ1 wr ρ1 w2) (hC3 : Chr ρ1 w2 ρ3 w3)
    (hM : MA w3 ρ3 { L1 with trv := tv, lw := upd L1.lw (plc a) lv } (onlyM (putM m x kept i mr) i a (mr.lv (plc x)))) : TeI w ρ L m x (k + 1) (kept ++ [i]) wrong vw w3 ρ3 { L1 with trv := tv, lw := upd L1.lw (plc a) lv } (onlyM (putM m x kept i mr) i a (mr.lv (plc x))) := by
  have hle := h.le
  obtain ⟨e1, e2, e3⟩ := onlyM_wt (mr := putM m x kept i mr) i a (mr.lv (plc x))
  have hti := h.ti
  rw [h.at' hk, hi] at hti
  have hT := hti.only hc hv hr
  refine { chr := (h.chr.trans hC).trans hC3, lay := ⟨h.lay.p, h.lay.cb, h.lay.cv, h.lay.vb⟩, wv := h.wv, ma := hM, loc := (h.loc.keep hC).keep hC3, new := h.new, raw := by rw [e1]; exact h.raw2 hk i, le := by rw [List.length_append]; simp; omega, ti := ?_, x := ?_, td := e2.trans h.td, told := e3.trans h.told }
  · have hh : hatM (onlyM (putM m x kept i mr) i a (mr.lv (plc x))) x (kept ++ [i] ++ (m.wt (wx x)).drop (k + 1)) = onlyM (hatM mr x (kept ++ i :: (m.wt (wx x)).drop (k + 1))) i a (mr.lv (plc x)) := by
      rw [← onlyM_hat]
      unfold putM
      rw [hat_hat, List.append_assoc]; rfl
    rw [hh]
    exact hT
  · refine h.x.trans ?_
    have hw : McW (putM m x kept i mr) := by
      have := h.ti.w
      exact ⟨this.n, this.vl, this.vv, this.tv, this.one, this.told, this.sorted, this.lt, this.lvl, this.mps, this.cls, this.rs0, this.dec, this.rsn⟩
    have hm0 : McX mr (putM m x kept i mr) := McX.of rfl rfl rfl rfl rfl rfl rfl
    exact hm0.trans (McX.only hw (r := x :: r) hc hv)
/-- The clause is watched by another literal. -/
theorem TeI.rew (h : TeI w ρ L m x k kept wrong vw wr ρ1 L1 mr) (hk : k < (m.wt (wx x)).length) {i : Nat} (hi : (m.wt (wx x)).getD k 0 = i) {a : Int} {r : List Int} (hc : mr.cl i = some (a :: x :: r)) {w3 : World} (hR : RewR wr ρ1 L1 mr i (a :: x :: r) true w3) : ∃ ρ3 L3 mr3, TeI w ρ L m x (k + 1) kept wrong vw w3 ρ3 L3 mr3 := by
  rcases hR with ⟨e, _⟩ | ⟨_, j, hj, hjl, hv, ρ3, hC, v, hM⟩
  · cases e
  have hle := h.le
  have hti := h.ti
  rw [h.at' hk, hi] at hti
  have hnd : (kept ++ i :: (m.wt (wx x)).drop (k + 1)).Nodup := by
    have := hti.l.wtN (wx x)
    have e : (hatM mr x (kept ++ i :: (m.wt (wx x)).drop (k + 1))).wt (wx x) = kept ++ i :: (m.wt (wx x)).drop (k + 1) := upd_same _ _ _
    rwa [e] at this
  have hmem : ∀ y, y ∈ kept ++ (m.wt (wx x)).drop (k + 1) ↔ y ∈ (hatM mr x (kept ++ i :: (m.wt (wx x)).drop (k + 1))).wt (wx x) ∧ y ≠ i := fun y => by
    have e : (hatM mr x (kept ++ i :: (m.wt (wx x)).drop (k + 1))).wt (wx x) = kept ++ i :: (m.wt (wx x)).drop (k + 1) := upd_same _ _ _
    rw [e]
    rw [List.nodup_append] at hnd
    obtain ⟨_, n2, n3⟩ := hnd
    rw [List.nodup_cons] at n2
    simp only [List.mem_append, List.mem_cons]
    constructor
    · rintro (hy | hy)
      · exact ⟨.inl hy, fun e => n3 y hy i (by simp) e⟩
      · exact ⟨.inr (.inr hy), fun e => n2.1 (e ▸ hy)⟩
    · rintro ⟨hy | hy | hy, hne⟩
      · exact .inl hy
      · exact absurd hy hne
      · exact .inr hy
  have hnd2 : (kept ++ (m.wt (wx x)).drop (k + 1)).Nodup := hnd.sublist (List.Sublist.append (List.Sublist.refl _) (List.sublist_cons_self _ _))
  have hT := hti.rew hc hj hjl hv hmem hnd2
  have hyx : (a :: x :: r).getD j 0 ≠ x := fun e => by
    have hnd3 := (h.ti.w.cls i _ hc).2.1
    have h1 := List.pairwise_iff_getElem.1 hnd3 1 j (by simp) hjl (by omega)
    have h2 : (a :: x :: r)[j] = x := by
      rw [List.getD, List.getElem?_eq_getElem hjl] at e
      exact e
    exact h1 (by rw [h2]; rfl)
  generalize (a :: x :: r).getD j 0 = y at *
  have wne : wx x ≠ wx y := fun e => hyx (wx_inj e).symm
  refine ⟨ρ3, { L1 with wv := upd L1.wv (wx y) v }, wat (putCl mr i (swapL (a :: x :: r) 1 j)) i y, { chr := h.chr.trans hC, lay := ⟨h.lay.p, h.lay.cb, h.lay.cv, h.lay.vb⟩, wv := ?_, ma := hM, loc := h.loc.keep hC, new := h.new, raw := ?_, le := by omega, ti := ?_, x := h.x.trans ((McX.putCl hc (swapL_perm _ (a := 1) (b := j) (by simp) hjl)).trans (McX.of rfl rfl rfl rfl rfl rfl rfl)), td := h.td, told := h.told }⟩
  · exact (upd_ne _ _ wne).trans h.wv
  · show upd mr.wt (wx y) _ (wx x) = _
    rw [upd_ne _ _ wne]; exact h.raw
  · have e : hatM (wat (putCl mr i (swapL (a :: x :: r) 1 j)) i y) x (kept ++ (m.wt (wx x)).drop (k + 1)) = { putCl (hatM mr x (kept ++ i :: (m.wt (wx x)).drop (k + 1))) i (swapL (a :: x :: r) 1 j) with wt := upd (upd (hatM mr x (kept ++ i :: (m.wt (wx x)).drop (k + 1))).wt (wx x) (kept ++ (m.wt (wx x)).drop (k + 1))) (wx y) ((hatM mr x (kept ++ i :: (m.wt (wx x)).drop (k + 1))).wt (wx y) ++ [i]) } := by
      unfold hatM wat putCl
      have : upd (upd mr.wt (wx y) (mr.wt (wx y) ++ [i])) (wx x) (kept ++ (m.wt (wx x)).drop (k + 1)) = upd (upd (upd mr.wt (wx x) (kept ++ i :: (m.wt (wx x)).drop (k + 1))) (wx x) (kept ++ (m.wt (wx x)).drop (k + 1))) (wx y) (upd mr.wt (wx x) (kept ++ i :: (m.wt (wx x)).drop (k + 1)) (wx y) ++ [i]) := by
        funext q
        rw [upd_ne mr.wt _ (Ne.symm wne)]
        unfold upd
        by_cases e1 : q = wx x
        · rw [if_pos e1, e1, if_neg wne, if_pos rfl]
        · rw [if_neg e1]
          by_cases e2 : q = wx y
          · rw [if_pos e2, if_pos e2]
          · rw [if_neg e2, if_neg e2, if_neg e1, if_neg e1]
      simp only [this]
    rw [e]
    exact hT

/-- The end: the list is cut to those that stayed, and the wrong ones are to be looked at. -/
theorem TeI.cut (h : TeI w ρ L m x k kept wrong vw wr ρ1 L1 mr) (hk : k = (m.wt (wx x)).length) {W2 : World} {sa : Option Addr} {sc : Nat} (hP : Part W2 ρ1 L1 mr (.w (wx x))) (hC : Chr ρ1 wr ρ1 W2) (hr : W2.ownsRow 0 73 1 (.slice sa kept.length sc) kept.length (kept.map (ptrC L1))) (hb : ∀ b, (Value.slice sa kept.length sc).ownBlock = some b → ρ1 b = some (.w (wx x))) (hnx : m.nx ≤ 1000000) :
    W2.cell? ⟨L.vb, wx x / 2 * 5 + (2 + wx x % 2), none⟩ = some (L1.wv (wx x)) ∧ W2.frozen? ⟨L.vb, wx x / 2 * 5 + (2 + wx x % 2), none⟩ = false ∧
    Calls Try.prog 56 #[ptrP L, vw] (W2.setCell ⟨L.vb, wx x / 2 * 5 + (2 + wx x % 2), none⟩ (.slice sa kept.length sc)) fun e w' => e = .returned (.tuple #[]) ∧ TellR w ρ L m vw wrong w' := by
  have hT := h.ti
  rw [hk, List.drop_length, List.append_nil] at hT
  have hj : wx x / 2 ≤ mr.n := by
    rw [wx_half]
    have := (hT.w.rgt hT.neg).2
    rwa [plc_ng] at this
  have hv := hP.at' .v (by nofun)
  have hM : MA (W2.setCell ⟨L1.vb, wx x / 2 * 5 + (2 + wx x % 2), none⟩ (.slice sa kept.length sc)) ρ1 { L1 with wv := upd L1.wv (wx x) (.slice sa kept.length sc) } (hatM mr x kept) := hP.setW hj ⟨by rw [List.length_map]; exact hr, hb⟩
  have hC3 : Chr ρ1 wr ρ1 (W2.setCell ⟨L1.vb, wx x / 2 * 5 + (2 + wx x % 2), none⟩ (.slice sa kept.length sc)) := hC.setCell hv.1 _
  rw [h.lay.vb] at hM hC3
  have e1 : (hatM mr x kept).nx = m.nx := h.x.nx
  have hL := lst_of hT.w hT.l (by rw [e1]; exact hnx)
  have hln := lst_len hT.w hT.l
  have hloc : LocR ρ1 (W2.setCell ⟨L.vb, wx x / 2 * 5 + (2 + wx x % 2), none⟩ (.slice sa kept.length sc)) { L1 with vb := L.vb, wv := upd L1.wv (wx x) (.slice sa kept.length sc) } vw wrong := ((h.loc.keep hC3).lay h.lay).lay ⟨rfl, rfl, rfl, h.lay.vb.symm⟩
  have hwl : wrong.length ≤ 1000000 := by
    have := pig (N := m.nx) hT.wn (fun y hy => by
      obtain ⟨_, _, c, hc, _⟩ := hT.win y hy
      have := (hT.w.cls y c hc).1
      omega)
    omega
  refine ⟨?_, ?_, ?_⟩
  · have := own_cell hv.2 (vcells_get L1 mr (v := wx x / 2) (k := 2 + wx x % 2) hj (by omega))
    rw [h.lay.vb] at this
    rw [this]
    rcases (show wx x % 2 = 0 ∨ wx x % 2 = 1 by omega) with e | e
    · rw [e]; show some (L1.wv (2 * (wx x / 2))) = _; rw [show 2 * (wx x / 2) = wx x by omega]
    · rw [e]; show some (L1.wv (2 * (wx x / 2) + 1)) = _; rw [show 2 * (wx x / 2) + 1 = wx x by omega]
  · have := own_frozen hv.2 (wx x / 2 * 5 + (2 + wx x % 2))
    rw [h.lay.vb] at this
    exact this
  · have hlo := mloo_any hM vw wrong hloc (fun y hy => by obtain ⟨_, _, c, hc, _⟩ := hT.win y hy; exact ⟨c, hc⟩) (fun y c hc => hT.w.cl_lit hc) hT.w.n hL (by omega) (by have := hln.2.2; omega)
    unfold ptrP at hlo ⊢
    rw [show ({ L1 with vb := L.vb, wv := upd L1.wv (wx x) (.slice sa kept.length sc) } : Lay).p = L.p from h.lay.p] at hlo
    refine hlo.mono ?_
    rintro e w' ⟨he, ρ4, hC4, L4, hE4, hM4⟩
    refine ⟨he, ρ4, L4, _, (h.chr.trans hC3).trans hC4, ⟨hE4.p, hE4.cb.trans h.lay.cb, hE4.cv.trans h.lay.cv, hE4.vb⟩, hM4, hT.done, (h.x.trans (McX.of (m' := hatM mr x kept) rfl rfl rfl rfl rfl rfl rfl)).trans (looM_x hT), (h.loc.keep hC3).keep hC4, ?_, ?_, fun y hy => ?_⟩
    · show mr.td ++ wrong = _; rw [h.td]
    · have : (looM (hatM mr x kept) wrong).told = (hatM mr x kept).told := by
        rw [looM_eq hT.l (fun y hy => (hT.win y hy).1) (fun y hy => by obtain ⟨_, _, c, hc, _⟩ := hT.win y hy; exact ⟨c, hc⟩)]
      rw [this]; exact h.told
    · obtain ⟨_, _, c, hc, hf⟩ := hT.win y hy
      refine ⟨c, ?_, fun l hl => ?_⟩
      · exact (congrFun (unwA_keep wrong (hatM mr x kept)).1 y).trans hc
      · rw [looM_eq hT.l (fun y hy => (hT.win y hy).1) (fun y hy => by obtain ⟨_, _, c, hc, _⟩ := hT.win y hy; exact ⟨c, hc⟩)]
        exact hf l hl

theorem TeI.bds (h : TeI w ρ L m x k kept wrong vw wr ρ1 L1 mr) (hk : k < (m.wt (wx x)).length) (hN : (m.wt (wx x)).length ≤ 1000000) (hnx : m.nx ≤ 1000000) : (∀ j, (mr.wt j).length ≤ 1000000000) ∧ (∀ j, (mr.lt j).length ≤ 1000000000) ∧ mr.tr.length ≤ 4000 ∧ mr.st.length ≤ 4000 := by
  have hw := h.ti.w
  obtain ⟨l1, l2, _⟩ := lst_len h.ti.w h.ti.l
  have e : (hatM mr x (kept ++ (m.wt (wx x)).drop k)).nx = m.nx := h.x.nx
  rw [e] at l1 l2
  have h1 := hw.tr_len
  have h2 := hw.st_len
  have h3 := hw.n
  refine ⟨fun j => ?_, fun j => Nat.le_trans (l2 j) (by omega), by show mr.tr.length ≤ _; have : mr.tr.length ≤ mr.n := h1; have : mr.n ≤ 4000 := h3; omega, by have : mr.st.length ≤ mr.n := h2; have : mr.n ≤ 4000 := h3; omega⟩
  by_cases ej : j = wx x
  · rw [ej, h.rlen (Nat.le_of_lt hk)]; omega
  · have := l1 j
    have e2 : (hatM mr x (kept ++ (m.wt (wx x)).drop k)).wt j = mr.wt j := upd_ne _ _ ej
    rw [e2] at this
    omega

set_option maxRecDepth 8000 in
set_option maxHeartbeats 16000000 in
theorem mtell_any (h : MA w ρ L m) (hT : TI m x (m.wt (wx x)) []) (hnx : m.nx ≤ 1000000) :
    Calls Try.prog 45 #[ptrP L, .int .i64 x] w fun e w' => ∃ v wrong, e = .returned v ∧ TellR w ρ L m v wrong w' := by
  have hn := hT.w.n
  have hpx : plc x ≤ m.n := by have := (hT.w.rgt hT.neg).2; rwa [plc_ng] at this
  obtain ⟨hx1, hx2⟩ := lit_bd hpx hn
  have HW := Lib.hid (mwat_any h x hpx hn)
  have HS0 := Lib.hid (fun t => (TeI.start h hT).drewN t)
  have hN0 := (lst_len hT.w hT.l).1 (wx x)
  obtain ⟨sa, sc, hsh, hs1, hs2⟩ := own_shape (h.own_w (wx x))
  have HSH := Lib.hid hsh
  have HA := Lib.hid h
  have HT := Lib.hid hT
  have hj : wx x / 2 ≤ m.n := by rw [wx_half]; exact hpx
  have HC3 : Hid (∀ t, (w.drewN t).cell? ⟨L.vb, wx x / 2 * 5 + (2 + wx x % 2), none⟩ = some (L.wv (wx x))) := fun t => by
    obtain ⟨_, _, _, h3, _⟩ := (h.drewN t).wApp hj (App.refl _) ((h.drewN t).own_w (wx x))
    exact h3
  rw [hsh] at HC3
  have HJ := Lib.hid hj
  unfold maxLen at hs2
  clear h hT hj hsh
  unfold ptrP at *
  obtain ⟨N, hN⟩ : ∃ N, (m.wt (wx x)).length = N := ⟨_, rfl⟩
  rw [hN] at hs1 HC3 HSH hN0
  have HN := Lib.hid hN
  have hNb : N ≤ 1000000 := by omega
  clear hN hN0
  go_enter Try.func45, Try.ntmps45
  go_wp2_with fail
  refine HW.out.mono ?_
  rintro e w1 ⟨rfl, t0, rfl⟩
  rw [← wx_cell]
  have c3 := HC3.out t0
  have HS := Lib.hid (HS0.out t0)
  clear HW HS0
  generalize hX : wx x / 2 * 5 + (2 + wx x % 2) = X at *
  have HX := Lib.hid hX
  clear hX
  go_wp2_with fail
  go_loopw [5, 7, 9, 10, 22] (fun u5 u7 _ _ u22 wr => ∃ (k : Nat) (kept wrong : List Nat) (ρ1 : Nat → Option Rl) (L1 : Lay) (mr : Mc), k ≤ N ∧ u22 = .int .i64 (k : Int) ∧ u7 = .slice sa kept.length sc ∧ TeI w ρ L m x k kept wrong u5 wr ρ1 L1 mr) (fun _ _ _ _ u22 _ => N - (intOf u22).toNat)
  case atStart => exact ⟨0, [], [], ρ, L, m, Nat.zero_le _, rfl, rfl, HS.out⟩
  case round =>
    obtain ⟨k, kept, wrong, ρ1, L1, mr, hk1, rfl, rfl, hI⟩ := hrel
    have HI := Lib.hid hI
    by_cases hk : k < N
    · have hkm : k < (m.wt (wx x)).length := by rw [HN.out]; exact hk
      obtain ⟨i, hi⟩ : ∃ i, (m.wt (wx x)).getD k 0 = i := ⟨_, rfl⟩
      have HI0 := Lib.hid hi
      have hir : i ∈ (m.wt (wx x)).drop k := by rw [hI.at' hkm, hi]; simp
      have HIR := Lib.hid hir
      have hwv := hI.wv
      rw [HSH.out] at hwv
      have hrow := hI.ma.own_w (wx x)
      obtain ⟨g, cap, e⟩ := own_at hrow (by rw [hI.rlen (Nat.le_of_lt hkm)]; omega)
      rw [hwv] at e
      injection e with e1 e2 e3
      clear e2
      subst e1; subst e3
      rw [hwv] at hrow
      have hrl := hI.rlen (Nat.le_of_lt hkm)
      rw [HN.out] at hrl
      rw [hrl] at hrow
      have x0 := own_cell hrow (i := k) (u := ptrC L1 i) (by rw [List.getElem?_map, hI.elem hkm, hi]; rfl)
      rw [hI.lay.ptr, show ptrC L i = .pointer (some ⟨L.cb i, 0, none⟩) from rfl] at x0
      obtain ⟨n1, n2, hcase⟩ := hI.ti.head hir
      have HCASE : Hid ((∃ b r, mr.cl i = some (x :: b :: r)) ∨ ∃ a r, mr.cl i = some (a :: x :: r)) := hcase
      clear hi hir hwv hrow hrl n1 n2 hcase hI hkm
      obtain ⟨y0, hcl0⟩ : ∃ c, mr.cl i = some c ∧ 2 ≤ c.length := by
        rcases HCASE.out with ⟨b, r, h⟩ | ⟨a, r, h⟩
        · exact ⟨_, h, by simp⟩
        · exact ⟨_, h, by simp⟩
      obtain ⟨g2, kc, e2, _, hcell, _, hcap, hmax⟩ := HI.out.ma.lits hcl0.1 (by omega)
      have q1 := (HI.out.ma.cells hcl0.1).2
      rw [HI.out.lay.cb, e2] at q1
      unfold maxLen at hmax
      have q2 := hcell 0 (y0.getD 0 0) (by simp [List.getD, show 0 < y0.length by omega])
      have HCL0 := Lib.hid hcl0
      have hyl : 2 ≤ y0.length := hcl0.2
      have hyl2 : y0.length ≤ 9223372036854775807 := by omega
      clear hcell e2 hcl0 hcap hmax
      generalize hY : y0.length = Y at *
      have HY := Lib.hid hY
      clear hY
      generalize hz : y0.getD 0 0 = z at *
      have HZ := Lib.hid hz
      clear hz
      go_upto_if 33 with fail
      go_cut [33] (fun b W => (∃ b', b = .bool b') ∧ ∃ mr' a r, TeI w ρ L m x k kept wrong u5 W ρ1 L1 mr' ∧ mr'.cl i = some (a :: x :: r))
      case first =>
        by_cases hz : z = x
        · have HSW : Hid (Calls Try.prog 81 #[.pointer (some ⟨L.cb i, 0, none⟩), .int .i64 0, .int .i64 1] wr fun e w' => e = .returned (.tuple #[]) ∧ ∃ mr' a r, TeI w ρ L m x k kept wrong u5 w' ρ1 L1 mr' ∧ mr'.cl i = some (a :: x :: r)) := by
            have hcl : ∃ b r, mr.cl i = some (x :: b :: r) := by
              rcases HCASE.out with h | ⟨a, r, h⟩
              · exact h
              · exfalso
                have h2 := HCL0.out.1
                rw [h] at h2
                injection h2 with h2
                have h3 := HZ.out
                rw [← h2] at h3
                have hne := (HI.out.ti.w.clsne (a := a) (b := x) (r := r) h).1
                exact hne (by rw [← hz, ← h3]; rfl)
            obtain ⟨b, r, hc⟩ := hcl
            have h1 := mswap_any HI.out.ma i (x :: b :: r) 0 1 hc (by simp) (by simp) (by omega)
            rw [HI.out.lay.ptr] at h1
            refine h1.mono ?_
            rintro e w' ⟨he, hC, hM⟩
            have e2 : swapL (x :: b :: r) 0 1 = b :: x :: r := by simp [swapL, List.getD]
            rw [e2] at hM
            exact ⟨he, _, b, r, HI.out.swap HIR.out hc hC hM, putCl_cl _ _ _⟩
          clear hyl hyl2
          subst hz
          go_wp2_with fail
          refine HSW.out.mono ?_
          rintro e w2 ⟨rfl, hR⟩
          have HR := Lib.hid hR
          clear hR
          go_wp2_with fail
          go_meet
          exact ⟨⟨_, rfl⟩, HR.out⟩
        · have hzb : (z == x) = false := beq_eq_false_iff_ne.2 hz
          have HR : Hid (∃ mr' a r, TeI w ρ L m x k kept wrong u5 wr ρ1 L1 mr' ∧ mr'.cl i = some (a :: x :: r)) := by
            rcases HCASE.out with ⟨b, r, h⟩ | ⟨a, r, h⟩
            · exfalso
              have h2 := HCL0.out.1
              rw [h] at h2
              injection h2 with h2
              have h3 := HZ.out
              rw [← h2] at h3
              exact hz h3.symm
            · exact ⟨mr, a, r, HI.out, h⟩
          clear hz
          go_wp2_with fail
          go_meet
          exact ⟨⟨_, rfl⟩, HR.out⟩
      case rest =>
        obtain ⟨⟨b0, rfl⟩, mr2, a, r, hI2, hc2⟩ := hcut
        clear HI HCASE HCL0 HY HZ q1 q2 x0
        have HI2 := Lib.hid hI2
        have HC2 := Lib.hid hc2
        have hla : plc a ≤ mr2.n := (hI2.ti.w.cl_lit (m := hatM mr2 x _) hc2).1 a (by simp)
        have hxn : plc x ≤ mr2.n := (hI2.ti.w.cl_lit (m := hatM mr2 x _) hc2).1 x (by simp)
        have hn2 : mr2.n ≤ 4000 := hI2.ti.w.n
        obtain ⟨ha1, ha2⟩ := lit_bd hla hn2
        obtain ⟨g3, kc3, e3, _, hcell3, _, hcap3, hmax3⟩ := hI2.ma.lits hc2 (by simp)
        have q1 := (hI2.ma.cells hc2).2
        rw [hI2.lay.cb, e3] at q1
        have q2 := hcell3 0 a rfl
        unfold maxLen at hmax3
        have hlen : (a :: x :: r).length = r.length + 2 := rfl
        rw [hlen] at q1 hcap3
        have hrb : r.length + 2 ≤ 9223372036854775807 := by omega
        have HV := Lib.hid (mval_any hI2.ma a (by omega) (by omega))
        unfold ptrP at HV
        rw [hI2.lay.p] at HV
        have HOA := Lib.hid (fun t => mof_any (hI2.ma.drewN t) a hla hn2)
        have HOX := Lib.hid (fun t => mof_any (hI2.ma.drewN t) x hxn hn2)
        unfold ptrP at HOA HOX
        rw [hI2.lay.p] at HOA HOX
        have g0 := hI2.ma.var (v := plc a) (k := 0) hla (by omega)
        have g1 := hI2.ma.var (v := plc x) (k := 0) hxn (by omega)
        rw [Nat.add_zero, show vcell L1 mr2 (plc a) 0 = .int .i64 (mr2.lv (plc a) : Int) from rfl] at g0
        rw [Nat.add_zero, show vcell L1 mr2 (plc x) 0 = .int .i64 (mr2.lv (plc x) : Int) from rfl] at g1
        clear hI2 hc2 e3 hcell3 hcap3 hmax3 hlen
        obtain ⟨va, hva⟩ : ∃ v, valL mr2.vs a = v := ⟨_, rfl⟩
        rw [hva] at HV
        have HVA := Lib.hid hva
        clear hva
        generalize hya : mr2.lv (plc a) = ya at *
        have HYA := Lib.hid hya
        clear hya
        generalize hyx : mr2.lv (plc x) = yx at *
        have HYX := Lib.hid hyx
        clear hyx
        generalize hRL : r.length = RL at *
        have HRL := Lib.hid hRL
        clear hRL
        go_wp2_with fail
        refine HV.out.mono ?_
        rintro e w3 ⟨rfl, rfl⟩
        go_wp2_with fail
        go_cut [65] (fun b W => b = .bool (decide (va = 1) && decide (ya ≤ yx)) ∧ ∃ t, W = wc.drewN t)
        case first =>
          by_cases h1 : va = 1
          · have hb1 : (va == 1) = true := beq_iff_eq.2 h1
            have HD : Hid (decide (va = 1) = true) := decide_eq_true h1
            clear h1
            go_quiet (first | (go_at_call_of 55 (Value.int IntKind.i64 a); refine Calls.quiet_of (HOA.out _)) | (refine Calls.quiet_of (HOX.out _)))
            go_wp2_with fail
            go_meet
            exact ⟨by rw [HD.out]; simp, _, rfl⟩
          · have hb1 : (va == 1) = false := beq_eq_false_iff_ne.2 h1
            have HD : Hid (decide (va = 1) = false) := decide_eq_false h1
            clear h1
            go_quiet (fail)
            go_wp2_with fail
            go_meet
            exact ⟨by rw [HD.out]; simp, _, rfl⟩
        case rest =>
          obtain ⟨rfl, t, rfl⟩ := hcut
          have HI3 := Lib.hid (HI2.out.drewN t)
          have hkm : k < (m.wt (wx x)).length := by rw [HN.out]; exact hk
          have HKM := Lib.hid hkm
          have hle := HI2.out.le
          obtain ⟨hM4, hC4, hs4, hf4, hg4⟩ := HI3.out.store hkm HSH.out i (.cells #[.pointer (some ⟨L.cb i, 0, none⟩)] 73)
          have HM4 := Lib.hid hM4
          have HC4 := Lib.hid hC4
          have HS4 := Lib.hid hs4
          have HF4 := Lib.hid hf4
          have hkc : kept.length + 1 ≤ sc := by omega
          have HKL : Hid ((kept ++ [i]).length = kept.length + 1) := by unfold Hid; rw [List.length_append]; rfl
          clear HV HOA HOX g0 g1 hkm hle hM4 hC4 hs4 hf4 HI2
          cases hB : decide (va = 1) && decide (ya ≤ yx) with
          | true =>
            have HB := Lib.hid hB
            have HR : Hid (TeI w ρ L m x (k + 1) (kept ++ [i]) wrong u5 (((wc.drewN t).alloc (.cells #[.pointer (some ⟨L.cb i, 0, none⟩)] 73)).setCell ⟨g, kept.length, none⟩ (.pointer (some ⟨L.cb i, 0, none⟩))) ρ1 L1 (putM m x kept i mr2)) := by
              have hb := HB.out
              rw [Bool.and_eq_true, decide_eq_true_eq, decide_eq_true_eq] at hb
              have h0 := HI3.out.ti
              rw [HI3.out.at' HKM.out] at h0
              have hi0 := HI0.out
              have hT := h0.keep (i := (m.wt (wx x)).getD k 0) (a := a) (r := r) (by rw [hi0]; exact HC2.out) ((HI3.out.ti.w.tv a).1 (by rw [← hb.1]; exact HVA.out)) (by show mr2.lv (plc a) ≤ mr2.lv (plc x); rw [HYA.out, HYX.out]; exact hb.2)
              have h2 := HI3.out.put HKM.out (HI3.out.chr.trans HC4.out) (by rw [hi0]; exact HM4.out) (HI3.out.loc.keep HC4.out) HI3.out.new (by rw [HI3.out.at' HKM.out]; exact hT)
              rw [hi0] at h2
              exact h2
            clear hB
            go_wp2_with (at_builtin; refine wpList_appIn 69 73 (.pointer none) 8 Try.underlying69 infoPc rfl _ _ rfl _ g kept.length sc (.pointer (some ⟨L.cb i, 0, none⟩)) rfl hkc hg4 HS4.out HF4.out _ (by simp) rfl rfl ?_)
            go_roundw
            case rel => exact ⟨k + 1, kept ++ [i], wrong, ρ1, L1, _, by omega, by go_num, by rw [HKL.out], HR.out⟩
            case measure => go_light; simp [intOf]; omega
          | false =>
            have hbd := HI3.out.bds HKM.out (by rw [HN.out]; exact hNb) hnx
            have HBD := Lib.hid hbd
            have hcl2 : (hatM mr2 x (kept ++ (m.wt (wx x)).drop k)).cl i = some (a :: x :: r) := HC2.out
            have HLI := Lib.hid (HI3.out.ti.w.cl_lit hcl2)
            have HON := Lib.hid (HI3.out.ti.w.cl_one hcl2)
            have HRW := Lib.hid (mrew_any HI3.out.ma i (a :: x :: r) HC2.out HLI.out.1 hn2 HLI.out.2 (by simp) hbd.1)
            unfold ptrP at HRW
            rw [HI3.out.lay.p, HI3.out.lay.ptr, show ptrC L i = .pointer (some ⟨L.cb i, 0, none⟩) from rfl] at HRW
            clear hB hbd hcl2
            go_wp2_with fail
            refine HRW.out.mono ?_
            rintro e w5 ⟨b, rfl, hR⟩
            cases b with
            | true =>
              obtain ⟨ρ3, L3, mr3, hI4⟩ := HI3.out.rew HKM.out HI0.out HC2.out hR
              have HI4 := Lib.hid hI4
              clear hI4 hR
              go_wp2_with fail
              go_roundw
              case rel => exact ⟨k + 1, kept, wrong, ρ3, L3, mr3, by omega, by go_num, rfl, HI4.out⟩
              case measure => go_light; simp [intOf]; omega
            | false =>
              have hR2 : w5 = wc.drewN t ∧ ∀ j, 2 ≤ j → j < (a :: x :: r).length → valL mr2.vs ((a :: x :: r).getD j 0) = 2 := by
                rcases hR with ⟨_, h1, h2⟩ | ⟨h1, _⟩
                · exact ⟨h1, h2⟩
                · cases h1
              obtain ⟨rfl, hf⟩ := hR2
              have hfr : ∀ l ∈ r, -l ∈ mr2.tr := fun l hl => by
                obtain ⟨q, hq, rfl⟩ := mem_of_getD hl
                have := hf (q + 2) (by omega) (by simp; omega)
                have e : (a :: x :: r).getD (q + 2) 0 = r.getD q 0 := by simp [List.getD]
                rw [e] at this
                exact (HI3.out.ti.w.vf _).1 this
              have HFR := Lib.hid hfr
              clear hR hf hfr HRW
              by_cases h2 : va = 2
              · subst h2
                have hloc4 := HI3.out.loc.keep HC4.out
                have HLOC4 := Lib.hid hloc4
                have HT4 : Hid (TI (hatM mr2 x (kept ++ (m.wt (wx x)).drop k)) x ((m.wt (wx x)).drop (k + 1)) (wrong ++ [i])) := by
                  have h0 := HI3.out.ti
                  rw [HI3.out.at' HKM.out, HI0.out] at h0
                  rw [HI3.out.at' HKM.out, HI0.out]
                  refine h0.bad (c := a :: x :: r) HC2.out fun l hl => ?_
                  rcases List.mem_cons.1 hl with rfl | hl
                  · exact (HI3.out.ti.w.vf _).1 HVA.out
                  · rcases List.mem_cons.1 hl with rfl | hl
                    · exact HI3.out.ti.neg
                    · exact HFR.out l hl
                have hwl : wrong.length ≤ 1000000 := by
                  have := pig (N := m.nx) HI3.out.ti.wn (fun y hy => by
                    obtain ⟨_, _, c, hc, _⟩ := HI3.out.ti.win y hy
                    have := (HI3.out.ti.w.cls y c hc).1
                    have e : (hatM mr2 x (kept ++ (m.wt (wx x)).drop k)).nx = m.nx := HI3.out.x.nx
                    omega)
                  omega
                have HFIN : Hid (∀ w6 v6, App 0 (((wc.drewN t).alloc (.cells #[.pointer (some ⟨L.cb i, 0, none⟩)] 73)).setCell ⟨g, kept.length, none⟩ (.pointer (some ⟨L.cb i, 0, none⟩))) w6 u5 v6 → w6.ownsRow 0 73 1 v6 (wrong.length + 1) (wrong.map (ptrC L) ++ [.pointer (some ⟨L.cb i, 0, none⟩)]) → TeI w ρ L m x (k + 1) (kept ++ [i]) (wrong ++ [i]) v6 w6 ρ1 L1 (putM m x kept i mr2)) := fun w6 v6 hap ho => by
                  rw [show wrong.map (ptrC L) ++ [Value.pointer (some ⟨L.cb i, 0, none⟩)] = (wrong ++ [i]).map (ptrC L) by simp [ptrC]] at ho
                  obtain ⟨a1, a2, a3, a4⟩ := loc_app HM4.out (HI3.out.chr.trans HC4.out) HLOC4.out HI3.out.new hap ho
                  have hi0 := HI0.out
                  have h5 := HI3.out.put HKM.out a2 (by rw [hi0]; exact a1) a3 a4 HT4.out
                  rw [hi0] at h5
                  exact h5
                clear hloc4
                go_wp2_with (first
                  | (at_builtin; refine wpList_appIn 69 73 (.pointer none) 8 Try.underlying69 infoPc rfl _ _ rfl _ g kept.length sc (.pointer (some ⟨L.cb i, 0, none⟩)) rfl hkc hg4 HS4.out HF4.out _ (by simp) rfl rfl ?_)
                  | (at_builtin; refine wpList_appV 69 73 (.pointer none) 8 Try.underlying69 infoPc rfl (by decide) rfl _ _ rfl (((wc.drewN t).alloc (.cells #[.pointer (some ⟨L.cb i, 0, none⟩)] 73)).setCell ⟨g, kept.length, none⟩ (.pointer (some ⟨L.cb i, 0, none⟩))) 0 u5 wrong.length (wrong.map (ptrC L)) (.pointer (some ⟨L.cb i, 0, none⟩)) rfl HLOC4.out.1 (Nat.zero_le _) (by omega) _ (by simp [World.setCell]) rfl rfl ?_; intro v6 w6 hown6 hap6; have HI5 := Lib.hid (HFIN.out w6 v6 hap6 hown6); clear hown6 hap6))
                go_roundw
                case rel => exact ⟨k + 1, kept ++ [i], wrong ++ [i], ρ1, L1, _, by omega, by go_num, by rw [HKL.out], HI5.out⟩
                case measure => go_light; simp [intOf]; omega
              · have hb2 : (va == 2) = false := beq_eq_false_iff_ne.2 h2
                have HV2 := Lib.hid h2
                have HO := Lib.hid (monly_any HM4.out i a (x :: r) HC2.out HLI.out.1 (fun y hy e => (List.rel_of_pairwise_cons HON.out hy) e.symm) hn2 HBD.out.2.2.1 HBD.out.2.2.2 (HBD.out.2.1 _))
                unfold ptrP at HO
                rw [HI3.out.lay.p, HI3.out.lay.ptr, show ptrC L i = .pointer (some ⟨L.cb i, 0, none⟩) from rfl] at HO
                clear h2
                go_wp2_with (at_builtin; refine wpList_appIn 69 73 (.pointer none) 8 Try.underlying69 infoPc rfl _ _ rfl _ g kept.length sc (.pointer (some ⟨L.cb i, 0, none⟩)) rfl hkc hg4 HS4.out HF4.out _ (by simp) rfl rfl ?_)
                refine HO.out.mono ?_
                rintro e w6 ⟨rfl, ρ6, hC6, tv, lv, hM6⟩
                rw [← HI3.out.lay.p] at hM6
                have HI5 := Lib.hid (HI3.out.only HKM.out HI0.out HC2.out (by rw [HVA.out]; exact HV2.out) HFR.out HC4.out hC6 hM6)
                clear hC6 hM6
                go_wp2_with fail
                go_roundw
                case rel => exact ⟨k + 1, kept ++ [i], wrong, ρ6, _, _, by omega, by go_num, by rw [HKL.out], HI5.out⟩
                case measure => go_light; simp [intOf]; omega
    · have hkN : k = N := by omega
      subst hkN
      have hd : ¬ k < k := Nat.lt_irrefl k
      have hrow := hI.ma.own_w (wx x)
      have hwv := hI.wv
      rw [HSH.out] at hwv
      have hrl := hI.rlen (by rw [HN.out]; exact Nat.le_refl _)
      rw [HN.out] at hrl
      rw [hwv, hrl] at hrow
      have hle := hI.le
      have hrawk : mr.wt (wx x) = kept ++ (m.wt (wx x)).drop kept.length := hI.raw
      have hmap : (mr.wt (wx x)).map (ptrC L1) = kept.map (ptrC L1) ++ ((m.wt (wx x)).drop kept.length).map (ptrC L1) := by rw [hrawk, List.map_append]
      rw [hmap] at hrow
      have hrg : ∀ b, (Value.slice sa k sc).ownBlock = some b → ρ1 b = some (.w (wx x)) := fun b hb => (hI.ma.at' (.w (wx x))).2 b (by rw [hwv]; exact hb)
      have hjm : wx x / 2 ≤ mr.n := by rw [hI.x.n]; exact HJ.out
      have c5 : wr.cell? ⟨L1.vb, wx x / 2 * 5 + (2 + wx x % 2), none⟩ = some (.slice sa k sc) := by
        obtain ⟨_, _, _, h3, _⟩ := hI.ma.wApp hjm (App.refl _) (hI.ma.own_w (wx x))
        rw [hwv] at h3
        exact h3
      rw [hI.lay.vb, HX.out] at c5
      have HROW := Lib.hid hrow
      have HRG := Lib.hid hrg
      have hql : kept.length ≤ k := hle
      have HKN : Hid (k = (m.wt (wx x)).length) := HN.out.symm
      clear hrow hrg hmap hrawk hwv hrl hjm hI hle
      by_cases hq : kept.length = k
      · have HQ := Lib.hid hq
        have HF := Lib.hid (HI.out.cut HKN.out (W2 := wr) (sa := sa) (sc := sc) (HI.out.ma.part _) (Chr.refl _ _) (by
          have h1 := HROW.out
          have hz : (m.wt (wx x)).drop kept.length = [] := by rw [HQ.out]; exact List.drop_of_length_le (by rw [HN.out]; exact Nat.le_refl _)
          rw [hz, List.map_nil, List.append_nil, ← HQ.out] at h1
          exact h1) (by rw [HQ.out]; exact HRG.out) hnx)
        rw [HX.out] at HF
        obtain ⟨c6, f6, hcalls⟩ := HF.out
        have HCALL := Lib.hid hcalls
        unfold ptrP at HCALL
        have hcl : ∀ ty a c, (Builtin.clear_ #[69] ty #[.slice a 0 c]).run Try.prog wr = .ok (.tuple #[]) wr := fun ty a c => run_clear_none wr ty a c
        clear c6 hcalls hql
        rw [HQ.out] at HCALL
        rw [hq]
        clear hq
        by_cases hsk : sc = k
        · subst hsk
          go_wp2_with fail
          refine HCALL.out.mono ?_
          rintro e w6 ⟨rfl, hR⟩
          have HR := Lib.hid hR
          clear hR
          go_wp2_with fail
          go_ret
          exact ⟨_, wrong, rfl, HR.out⟩
        · skip
          go_wp2_with fail
          refine HCALL.out.mono ?_
          rintro e w6 ⟨rfl, hR⟩
          have HR := Lib.hid hR
          clear hR
          go_wp2_with fail
          go_ret
          exact ⟨_, wrong, rfl, HR.out⟩
      · have hq2 : kept.length < k := by omega
        obtain ⟨g, cap, e⟩ := own_at HROW.out (by omega)
        injection e with e1 e2 e3
        clear e2
        subst e1; subst e3
        have hgr := HRG.out g rfl
        have ho := HROW.out
        have hcl : ∀ ty, (Builtin.clear_ #[69] ty #[.slice (some ⟨g, kept.length, none⟩) (k - kept.length) (sc - kept.length)]).run Try.prog wr = .ok (.tuple #[]) (wr.setCells g kept.length (List.replicate (k - kept.length) (.pointer none))) := fun ty =>
          Lib.run_clear_slice wr _ _ ty _ Try.underlying69 zeroPc rfl rfl g kept.length _ _ (by omega) (fun j hj => own_isSome ho (by omega)) (fun j _ => own_frozen ho _)
        have hpre : wr.ownsRow 0 73 1 (.slice (some ⟨g, 0, none⟩) kept.length sc) kept.length (kept.map (ptrC L1)) := by
          refine own_less (m := k - kept.length) (ys := ((m.wt (wx x)).drop kept.length).map (ptrC L1)) ?_ (by rw [List.length_map])
          rw [show kept.length + (k - kept.length) = k by omega]
          exact ho
        have hon := only_setCells g (List.replicate (k - kept.length) (Value.pointer none)) kept.length wr
        have HF := Lib.hid (HI.out.cut HKN.out (W2 := wr.setCells g kept.length (List.replicate (k - kept.length) (.pointer none))) (sa := some ⟨g, 0, none⟩) (sc := sc) (Part.of_only HI.out.ma hgr hon) (Chr.of_only hgr hon) (own_beyonds _ _ _ hpre (Nat.le_refl _)) (fun b hb => by
          have : g = b := by simpa [Value.ownBlock] using hb
          exact this ▸ hgr) hnx)
        rw [HX.out] at HF
        obtain ⟨c6, f6, hcalls⟩ := HF.out
        have HCALL := Lib.hid hcalls
        unfold ptrP at HCALL
        have hwv2 := HI.out.wv
        rw [HSH.out] at hwv2
        rw [hwv2] at c6
        clear hcalls hpre hon ho hgr hq hwv2
        generalize kept.length = q at *
        have hsk : ¬ sc = q := by omega
        generalize wr.setCells g q (List.replicate (k - q) (.pointer none)) = W2 at *
        go_wp2_with fail
        refine HCALL.out.mono ?_
        rintro e w6 ⟨rfl, hR⟩
        have HR := Lib.hid hR
        clear hR
        go_wp2_with fail
        go_ret
        exact ⟨_, wrong, rfl, HR.out⟩

end
end Go.Proofs.Ytmlgpnaikdpifaa

namespace Go.Proofs.Ytmlgpnaikdpifaa
open Go.RowKit

/-- A prop at rest in memory, grown out of another. -/
structure PrpS (w : World) (ρ : Nat → Option Rl) (L : Lay) (m : Mc) (wr : World) (ρ1 : Nat → Option Rl) (L1 : Lay) (m1 : Mc) : Prop where
  chr : Chr ρ w ρ1 wr
  p : L1.p = L.p
  cb : L1.cb = L.cb
  ma : MA wr ρ1 L1 m1
  i : McI m1
  x : McX m m1
/-- What Propagate answers, and leaves. -/
def PrpE (w : World) (ρ : Nat → Option Rl) (L : Lay) (m : Mc) (r : Int) (wr : World) : Prop := ∃ ρ1 L1 m1, PrpS w ρ L m wr ρ1 L1 m1 ∧ ((r = -1 ∧ m1.told = m1.tr.length ∧ m1.td = []) ∨ ∃ (k : Nat) (c : List Int), r = (k : Int) ∧ m1.cl k = some c ∧ ∀ l ∈ c, -l ∈ m1.tr)
section
variable {w wr : World} {ρ ρ1 : Nat → Option Rl} {L L1 : Lay} {m m1 : Mc}
theorem PrpS.refl (h : MA w ρ L m) (hI : McI m) : PrpS w ρ L m w ρ L m := ⟨Chr.refl _ _, rfl, rfl, h, hI, McX.refl _⟩
theorem PrpS.drewN (h : PrpS w ρ L m wr ρ1 L1 m1) (t : Nat) : PrpS w ρ L m (wr.drewN t) ρ1 L1 m1 := { h with chr := h.chr.drewN t, ma := h.ma.drewN t }
theorem PrpS.ptr (h : PrpS w ρ L m wr ρ1 L1 m1) (i : Nat) : ptrC L1 i = .pointer (some ⟨L.cb i, 0, none⟩) := by unfold ptrC; rw [h.cb]
/-- One literal more has told. -/
theorem PrpS.tell (h : PrpS w ρ L m wr ρ1 L1 m1) (ht : m1.told < m1.tr.length) (hnx : m.nx ≤ 1000000) (t : Nat) :
    Calls Try.prog 45 #[.pointer (some ⟨L.p, 0, none⟩), .int .i64 (-(m1.tr.getD m1.told 0))] ((wr.setCell ⟨L.p, 3, none⟩ (.int .i64 ((m1.told + 1 : Nat) : Int))).drewN t) fun e w' => ∃ v wrong, e = .returned v ∧ ∃ ρ2 L2 m2, PrpS w ρ L m w' ρ2 L2 m2 ∧ m2.told = m1.told + 1 ∧ m2.td = m1.td ++ wrong ∧ w'.ownsRow 0 73 1 v wrong.length (wrong.map (ptrC L2)) ∧ ∀ i ∈ wrong, ∃ c, m2.cl i = some c ∧ ∀ l ∈ c, -l ∈ m2.tr := by
  have h1 := h.ma.setTold (m1.told + 1)
  rw [h.p] at h1
  have h2 := h1.drewN t
  have hT := TI.start h.i ht
  have := mtell_any h2 hT (by show m1.nx ≤ _; rw [h.x.nx]; exact hnx)
  unfold ptrP at this
  rw [h.p] at this
  refine this.mono ?_
  rintro e w' ⟨v, wrong, he, ρ2, L2, m2, hC, hE, hM, hI2, hX, hloc, htd, htold, hf⟩
  have hc0 : Chr ρ w ρ1 ((wr.setCell ⟨L.p, 3, none⟩ (.int .i64 ((m1.told + 1 : Nat) : Int))).drewN t) := (h.chr.setCell (by rw [← h.p]; exact h.ma.rp) _).drewN t
  refine ⟨v, wrong, he, ρ2, L2, m2, ⟨hc0.trans hC, hE.p.trans h.p, hE.cb.trans h.cb, hM, hI2, ?_⟩, htold, htd, ?_, hf⟩
  · exact h.x.trans ((McX.of (m := m1) (m' := { m1 with told := m1.told + 1 }) rfl rfl rfl rfl rfl rfl rfl).trans hX)
  · have e1 : ptrC L2 = ptrC L1 := funext fun i => hE.ptr i
    rw [e1]; exact hloc.1

/-- What the call of tell leaves. -/
def TelP (w : World) (ρ : Nat → Option Rl) (L : Lay) (m : Mc) (T : Nat) (td : List Nat) (v : Value) (w' : World) : Prop := ∃ wrong ρ2 L2 m2, PrpS w ρ L m w' ρ2 L2 m2 ∧ m2.told = T ∧ m2.td = td ++ wrong ∧ w'.ownsRow 0 73 1 v wrong.length (wrong.map (ptrC L2)) ∧ ∀ i ∈ wrong, ∃ c, m2.cl i = some c ∧ ∀ l ∈ c, -l ∈ m2.tr
theorem TelP.shape {T : Nat} {td : List Nat} {v : Value} (h : TelP w ρ L m T td v wr) : ∃ a n c, v = .slice a n c := by
  obtain ⟨_, _, _, _, _, _, _, ho, _⟩ := h
  obtain ⟨a, c, e, _⟩ := own_shape ho
  exact ⟨a, _, c, e⟩
/-- What the call of settle leaves, and the store behind it. -/
def SetQ (w : World) (ρ : Nat → Option Rl) (L : Lay) (m : Mc) (T : Nat) (td' : List Nat) (i : Nat) (b : Bool) (W : World) : Prop :=
  (b = false ∧ PrpE w ρ L m (i : Int) W ∧ W.cell? ⟨L.cb i, 0, none⟩ = some (.int .i64 (i : Int))) ∨
  (b = true ∧ ∃ g cap, W.cell? ⟨L.p, 7, none⟩ = some (.slice (some ⟨g, 0, none⟩) (td'.length + 1) cap) ∧ W.ownsRow 0 73 1 (.slice (some ⟨g, 0, none⟩) (td'.length + 1) cap) (td'.length + 1) ((td' ++ [i]).map fun y => Value.pointer (some ⟨L.cb y, 0, none⟩)) ∧
    ∀ W2, Only g W W2 → W2.ownsRow 0 73 1 (.slice (some ⟨g, 0, none⟩) td'.length cap) td'.length (td'.map fun y => Value.pointer (some ⟨L.cb y, 0, none⟩)) → W2.cell? ⟨L.p, 7, none⟩ = some (.slice (some ⟨g, 0, none⟩) (td'.length + 1) cap) ∧ W2.frozen? ⟨L.p, 7, none⟩ = false ∧ L.p < W2.heap.size ∧
      ∃ ρ5 L5 m5, PrpS w ρ L m (W2.setCell ⟨L.p, 7, none⟩ (.slice (some ⟨g, 0, none⟩) td'.length cap)) ρ5 L5 m5 ∧ m5.told = T ∧ m5.td = td')
theorem PrpS.settle (h : PrpS w ρ L m wr ρ1 L1 m1) (ht : m1.told = m1.tr.length) {td' : List Nat} {i : Nat} (htd : m1.td = td' ++ [i]) (hnx : m.nx ≤ 1000000) :
    Calls Try.prog 46 #[.pointer (some ⟨L.p, 0, none⟩), .pointer (some ⟨L.cb i, 0, none⟩)] wr fun e w' => ∃ b, e = .returned (.bool b) ∧ SetQ w ρ L m m1.told td' i b w' := by
  have hi : i ∈ m1.td := by rw [htd]; simp
  obtain ⟨_, c, hc⟩ := h.i.l.tdF i hi
  have hw := h.i.w
  obtain ⟨l1, l2, _⟩ := lst_len hw h.i.l
  have e1 : m1.nx = m.nx := h.x.nx
  have htr := hw.tr_len
  have hst := hw.st_len
  have hn := hw.n
  have hs := mset2_any h.ma i c hc (hw.cl_lit hc).1 (hw.cl_one hc) hn (by omega) (by omega) (hw.cl_lit hc).2 (fun j => by have := l1 j; omega) (fun j => by have := l2 j; omega)
  unfold ptrP at hs
  rw [h.p, h.ptr] at hs
  refine hs.mono ?_
  rintro e w' ⟨b, he, c2, ⟨hp, hb0, hb1⟩, m', hP, ρ4, hC4, L4, hp4, hcb4, hM4⟩
  refine ⟨b, he, ?_⟩
  obtain ⟨hX, htold, htd4, hres⟩ := h.i.settle ht htd hc hp hb0 hb1 hP
  have hpL : L4.p = L.p := hp4.trans h.p
  have hcL : L4.cb = L.cb := hcb4.trans h.cb
  rcases hres with ⟨hb, hI4, d, hd, hf⟩ | ⟨hb, hI4⟩
  · refine .inl ⟨hb, ⟨ρ4, L4, m', ⟨h.chr.trans hC4, hpL, hcL, hM4, hI4, h.x.trans hX⟩, .inr ⟨i, d, rfl, hd, hf⟩⟩, ?_⟩
    have := (hM4.cells hd).1
    rwa [hcL] at this
  · right
    have hpf : ptrC L4 = fun y => Value.pointer (some ⟨L.cb y, 0, none⟩) := funext fun y => by unfold ptrC; rw [hcL]
    have hrow := hM4.own_td
    rw [htd4, htd] at hrow
    have hlen : (td' ++ [i]).length = td'.length + 1 := by rw [List.length_append]; rfl
    rw [hlen] at hrow
    obtain ⟨g, cap, e⟩ := own_at hrow (by omega)
    have c7 := hM4.pc.c7
    rw [e, hpL] at c7
    rw [e] at hrow
    refine ⟨hb, g, cap, c7, by rw [← hpf]; exact hrow, fun W2 hO hrow2 => ?_⟩
    rw [← hpf] at hrow2
    have hap : App 0 w' W2 L4.tdv (.slice (some ⟨g, 0, none⟩) td'.length cap) := by rw [e]; exact app_of_only hO
    obtain ⟨ρ5, hM5, hC5, k7, f7⟩ := hM4.tdApp hap hrow2
    rw [e, hpL] at k7
    rw [hpL] at hM5 hC5 f7
    refine ⟨k7, f7, Nat.lt_of_lt_of_le (by rw [← hpL]; exact hM4.lt _ _ hM4.rp) hO.size, ρ5, _, { m' with td := td' }, ⟨(h.chr.trans hC4).trans hC5, ?_, ?_, hM5, hI4, ?_⟩, htold, rfl⟩
    · rfl
    · exact hcL
    · have h2 : McX m' { m' with td := td' } := McX.of rfl rfl rfl rfl rfl rfl rfl
      exact (h.x.trans hX).trans h2
theorem erase_last {α : Type} (xs : List α) (x : α) : (xs ++ [x]).eraseIdx xs.length = xs := by
  rw [List.eraseIdx_eq_take_drop_succ]; simp

set_option maxRecDepth 8000 in
set_option maxHeartbeats 16000000 in
theorem mprp_any (h : MA w ρ L m) (hI : McI m) (hnx : m.nx ≤ 1000000) :
    Calls Try.prog 14 #[ptrP L] w fun e w' => ∃ x : Int, e = .returned (.int .i64 x) ∧ PrpE w ρ L m x w' := by
  have HS0 := Lib.hid (PrpS.refl h hI)
  have HB0 : Hid (m.told ≤ m.n) := Nat.le_trans hI.w.told hI.w.tr_len
  clear h hI
  unfold ptrP
  go_enter Try.func14, Try.ntmps14
  go_wp2_with fail
  go_loopg [3, 4, 5] ((m.n - m.told) + m.td.length) (fun gh _ _ _ wr => ∃ (ρ1 : Nat → Option Rl) (L1 : Lay) (m1 : Mc), PrpS w ρ L m wr ρ1 L1 m1 ∧ gh = (m.n - m1.told) + m1.td.length)
  case atStart => exact ⟨ρ, L, m, HS0.out, rfl⟩
  case round =>
    obtain ⟨ρ1, L1, m1, hS, rfl⟩ := hrel
    have HS1 := Lib.hid hS
    clear hS
    go_wp2_with fail
    go_loopg [3] (m.n - m1.told) (fun gh2 _ wr2 => ∃ (ρ2 : Nat → Option Rl) (L2 : Lay) (m2 : Mc), PrpS w ρ L m wr2 ρ2 L2 m2 ∧ m2.td = m1.td ∧ m1.told ≤ m2.told ∧ gh2 = m.n - m2.told)
    case atStart => exact ⟨ρ1, L1, m1, HS1.out, rfl, Nat.le_refl _, rfl⟩
    case round =>
      obtain ⟨ρ2, L2, m2, hS, htd, hto, rfl⟩ := hrel
      have HS2 := Lib.hid hS
      have HTD := Lib.hid htd
      have c3 := hS.ma.pc.c3
      have c2 := hS.ma.pc.c2
      obtain ⟨ta, tc, hts, _, _⟩ := ro_shape (hS.ma.at' .tr)
      rw [List.length_map] at hts
      rw [hts] at c2
      rw [hS.p] at c2 c3
      have htl : m2.told ≤ m2.tr.length := hS.i.w.told
      have htn : m2.tr.length ≤ 4000 := Nat.le_trans hS.i.w.tr_len hS.i.w.n
      have htn2 : m2.tr.length ≤ m.n := by have := hS.i.w.tr_len; rw [hS.x.n] at this; exact this
      have HTN := Lib.hid htn2
      have HTO := Lib.hid hto
      have HTS := Lib.hid hts
      clear hS htd htn2 hto hts
      by_cases hlt : m2.told < m2.tr.length
      · have HLT := Lib.hid hlt
        have HTE : Hid (∀ q t, Calls Try.prog 45 #[.pointer (some ⟨L.p, 0, none⟩), .int .i64 (-(m2.tr.getD m2.told 0))] (((wr.drewN q).setCell ⟨L.p, 3, none⟩ (.int .i64 ((m2.told : Int) + 1))).drewN t) fun e w' => ∃ v, e = .returned v ∧ TelP w ρ L m (m2.told + 1) m1.td v w') := fun q t => by
          refine ((HS2.out.drewN q).tell hlt hnx t).mono ?_
          rintro e w' ⟨v, wrong, he, ρ3, L3, m3, h1, h2, h3, h4, h5⟩
          exact ⟨v, he, wrong, ρ3, L3, m3, h1, h2, by rw [h3, HTD.out], h4, h5⟩
        have hel : Hid (∃ g, ta = some ⟨g, 0, none⟩ ∧ wr.cell? ⟨g, m2.told, none⟩ = some (.int .i64 (m2.tr.getD m2.told 0)) ∧ g ≠ L.p) := by
          have hrow := (HS2.out.ma.at' .tr).1
          rw [List.length_map, HTS.out] at hrow
          obtain ⟨g, cap, e⟩ := own_at hrow (by omega)
          injection e with e1 _ e3
          subst e1; subst e3
          refine ⟨g, rfl, own_cell hrow (by rw [List.getElem?_map]; simp [List.getD, hlt]), fun e => ?_⟩
          have h1 := (HS2.out.ma.at' .tr).2 g (by rw [HTS.out]; rfl)
          have h2 := HS2.out.ma.rp
          rw [HS2.out.p, ← e, h1] at h2
          cases h2
        obtain ⟨g, rfl, hg1, hg2⟩ := hel.out
        have hplc : -4000 ≤ m2.tr.getD m2.told 0 ∧ m2.tr.getD m2.told 0 ≤ 4000 := lit_bd (HS2.out.i.w.rgt (getD_mem' hlt)).2 HS2.out.i.w.n
        obtain ⟨hpl1, hpl2⟩ := hplc
        have f3 := HS2.out.ma.pc.fr 3
        rw [HS2.out.p] at f3
        have hlp := HS2.out.ma.lt _ _ HS2.out.ma.rp
        rw [HS2.out.p] at hlp
        generalize hz : m2.tr.getD m2.told 0 = z at *
        have HZ := Lib.hid hz
        clear hz hel
        generalize hT : m2.told = T at *
        have HT := Lib.hid hT
        generalize hLn : m2.tr.length = Ln at *
        have HLn := Lib.hid hLn
        clear hT hLn
        go_wp2_with fail
        go_quiet (fail)
        go_upto_region 3 with fail
        have k3 : ((wr.drewN nq).setCell ⟨L.p, 3, none⟩ (.int .i64 ((T : Int) + 1))).cell? ⟨L.p, 3, none⟩ = some (.int .i64 ((T : Int) + 1)) := set_at (W := wr.drewN nq) c3
        have k2 : ((wr.drewN nq).setCell ⟨L.p, 3, none⟩ (.int .i64 ((T : Int) + 1))).cell? ⟨L.p, 2, none⟩ = some (.slice (some ⟨g, 0, none⟩) Ln tc) := (set_off (W := wr.drewN nq) (.inr (by decide))).trans c2
        have kg : ((wr.drewN nq).setCell ⟨L.p, 3, none⟩ (.int .i64 ((T : Int) + 1))).cell? ⟨g, T, none⟩ = some (.int .i64 z) := (set_off (W := wr.drewN nq) (.inl (fun e => hg2 e.symm))).trans hg1
        have HTQ := Lib.hid (HTE.out nq)
        generalize (wr.drewN nq).setCell ⟨L.p, 3, none⟩ (.int .i64 ((T : Int) + 1)) = W3 at *
        clear c2 c3 hg1 f3 hlp HTE
        go_cut [3] (fun v W => TelP w ρ L m (T + 1) m1.td v W)
        case first =>
          have hw1 : IntKind.i64.wrap (T : Int) = (T : Int) := IntWalk.i64_in _ (by omega)
          have hw2 : IntKind.i64.wrap ((T : Int) + 1) = (T : Int) + 1 := IntWalk.i64_in _ (by omega)
          have hw3 : IntKind.i64.wrap (-z) = -z := IntWalk.i64_in _ (by omega)
          have hi0 : (0 : Int) ≤ (T : Int) := by omega
          have hi1 : (T : Int) < (Ln : Int) := by omega
          go_region_with (refine (HTQ.out _).mono ?_; rintro e w5 ⟨v5, rfl, hR5⟩; obtain ⟨a5, n5, c5, rfl⟩ := hR5.shape; have HR5 := Lib.hid hR5; clear hR5)
          all_goals (go_wp2_with fail; go_meet; exact HR5.out)
        case rest =>
          obtain ⟨wrong, ρ3, L3, m3, hS3, ht3, htd3, ho3, hf3⟩ := hcut
          cases wrong with
          | nil =>
            obtain ⟨a5, c5, rfl, _⟩ := own_shape ho3
            have hz0 : ([] : List Nat).length = 0 := rfl
            rw [hz0]
            have HS3 := Lib.hid hS3
            have HT3 := Lib.hid ht3
            have HD3 : Hid (m3.td = m1.td) := by unfold Hid; rw [htd3, List.append_nil]
            have hto : m1.told ≤ T + 1 := by have := HTO.out; omega
            have hms : m.n - (T + 1) < m.n - T := by have := HTN.out; omega
            clear hS3 ht3 htd3 ho3 hf3 hz0
            go_wp2_with fail
            go_roundg (m.n - (T + 1))
            case rel => exact ⟨ρ3, L3, m3, HS3.out, HD3.out, by rw [HT3.out]; exact hto, by rw [HT3.out]⟩
            case measure => exact hms
          | cons i ws =>
            obtain ⟨g5, c5, rfl⟩ := own_at ho3 (by simp)
            have x5 := own_cell ho3 (i := 0) (u := ptrC L3 i) rfl
            rw [hS3.ptr] at x5
            obtain ⟨c, hc, hf⟩ := hf3 i (by simp)
            have x6 := (hS3.ma.cells hc).1
            rw [hS3.cb] at x6
            have HE : Hid (PrpE w ρ L m (i : Int) wc) := ⟨ρ3, L3, m3, hS3, .inr ⟨i, c, rfl, hc, hf⟩⟩
            have hln : (i :: ws).length = ws.length + 1 := rfl
            rw [hln]
            clear hS3 ht3 htd3 ho3 hf3 hc hf hln
            generalize ws.length = N5 at *
            go_wp2_with fail
            go_ret
            exact ⟨_, rfl, HE.out⟩
      · have hTL : m2.told = m2.tr.length := by omega
        have HTL := Lib.hid hTL
        have hd : ¬ m2.told < m2.tr.length := hlt
        have c7 := HS2.out.ma.pc.c7
        obtain ⟨da, dc, hds, hd1, hd2⟩ := own_shape HS2.out.ma.own_td
        rw [hds, HTD.out, HS2.out.p] at c7
        have hrow := HS2.out.ma.own_td
        rw [hds, HTD.out] at hrow
        have HROW := Lib.hid hrow
        have HDS := Lib.hid hds
        have htn' : m2.told ≤ 4000 := by omega
        clear hTL hrow hds
        generalize hT : m2.told = T at *
        have HT := Lib.hid hT
        generalize hLn : m2.tr.length = Ln at *
        have HLn := Lib.hid hLn
        clear hT hLn
        have hdI : decide ((T : Int) < (Ln : Int)) = false := decide_eq_false (by omega)
        have htdl : m1.td.length ≤ 1000000 := by
          have h1 := (lst_len HS2.out.i.w HS2.out.i.l).2.2
          rw [HTD.out, HS2.out.x.nx] at h1
          omega
        rcases List.eq_nil_or_concat m1.td with htd | ⟨td', i, htd⟩
        · rw [htd] at c7
          have hz0 : ([] : List Nat).length = 0 := rfl
          rw [hz0] at c7
          have HE : Hid (∀ t, PrpE w ρ L m (-1) (wr.drewN t)) := fun t => ⟨ρ2, L2, m2, HS2.out.drewN t, .inl ⟨rfl, by rw [HT.out, HLn.out]; omega, by rw [HTD.out]; exact htd⟩⟩
          clear hz0 HDS HROW hd1 hd2 htd htdl
          go_wp2_with fail
          go_quiet (fail)
          go_wp2_with fail
          go_ret
          exact ⟨_, rfl, HE.out _⟩
        · rw [List.concat_eq_append] at htd
          have HSE : Hid (∀ t, Calls Try.prog 46 #[.pointer (some ⟨L.p, 0, none⟩), .pointer (some ⟨L.cb i, 0, none⟩)] (wr.drewN t) fun e w' => ∃ b, e = .returned (.bool b) ∧ SetQ w ρ L m T td' i b w') := fun t => by
            have := (HS2.out.drewN t).settle (td' := td') (i := i) (by rw [HT.out, HLn.out]; omega) (by rw [HTD.out]; exact htd) hnx
            rw [HT.out] at this
            exact this
          have hlen : (td' ++ [i]).length = td'.length + 1 := by rw [List.length_append]; rfl
          have hro := HROW.out
          rw [htd, hlen] at hro
          rw [htd, hlen] at c7
          obtain ⟨g, cap, e⟩ := own_at hro (by omega)
          injection e with e1 _ e3
          subst e1; subst e3
          have x7 := own_cell hro (i := td'.length) (u := ptrC L2 i) (by rw [List.getElem?_map]; simp)
          rw [HS2.out.ptr] at x7
          have hql : td'.length ≤ 1000000 := by rw [htd, hlen] at htdl; omega
          have HML : Hid ((m.n - T) + td'.length < (m.n - m1.told) + m1.td.length) := by
            unfold Hid
            rw [htd, hlen]
            have := HTO.out
            omega
          clear hro hlen htd htdl HROW HDS hd1 hd2
          generalize hq : td'.length = q at *
          have HQ := Lib.hid hq
          clear hq
          have hk1 : decide ((0 : Int) ≤ (q : Int)) = true := decide_eq_true (by omega)
          have hk2 : ¬ (q : Int) < 0 := by omega
          go_wp2_with fail
          go_quiet (fail)
          go_wp2_with fail
          refine (HSE.out _).mono ?_
          rintro e w5 ⟨b, rfl, hQ⟩
          cases b with
          | false =>
            have hQ2 : PrpE w ρ L m (i : Int) w5 ∧ w5.cell? ⟨L.cb i, 0, none⟩ = some (.int .i64 (i : Int)) := by
              rcases hQ with ⟨_, h⟩ | ⟨h, _⟩
              · exact h
              · cases h
            obtain ⟨hE, x8⟩ := hQ2
            have HE := Lib.hid hE
            clear hE hQ
            go_wp2_with fail
            go_ret
            exact ⟨_, rfl, HE.out⟩
          | true =>
            rcases hQ with ⟨h, _⟩ | ⟨_, g6, cap6, c8, hro6, hfin⟩
            · cases h
            rw [HQ.out] at c8 hro6 hfin
            have HD := Lib.hid (mdelete_any g6 (q + 1) cap6 _ q hro6 (fun u hu => by obtain ⟨y, _, rfl⟩ := List.mem_map.1 hu; rfl) (by omega))
            have HFIN := Lib.hid hfin
            have HER : Hid (((td' ++ [i]).map fun y => Value.pointer (some ⟨L.cb y, 0, none⟩)).eraseIdx q = td'.map fun y => Value.pointer (some ⟨L.cb y, 0, none⟩)) := by
              unfold Hid
              rw [← HQ.out, List.map_append, List.map_cons, List.map_nil]
              have := erase_last (td'.map fun y => Value.pointer (some ⟨L.cb y, 0, none⟩)) (.pointer (some ⟨L.cb i, 0, none⟩))
              rwa [List.length_map] at this
            rw [HER.out] at HD
            clear hro6 hfin c7 x7
            go_wp2_with fail
            refine HD.out.mono ?_
            rintro e w6 ⟨rfl, ho6, hO6⟩
            rw [show q + 1 - 1 = q from rfl] at *
            obtain ⟨k7, f7, hlp, ρ5, L5, m5, hS5, ht5, htd5⟩ := HFIN.out w6 hO6 ho6
            have HS5 := Lib.hid hS5
            have HG : Hid ((m.n - T) + q = (m.n - m5.told) + m5.td.length) := by unfold Hid; rw [ht5, htd5, HQ.out]
            clear ho6 hO6 hS5 ht5 htd5
            go_wp2_with fail
            go_roundg ((m.n - T) + q)
            case rel => exact ⟨ρ5, L5, m5, HS5.out, HG.out⟩
            case measure => exact HML.out

end
end Go.Proofs.Ytmlgpnaikdpifaa
