/- The walk of skolemlaw15.PropOrder: it answers true. Conditions: the arguments read as 64-bit ints. -/
import Derived.Test.YtkjaepcdhclmfaaPrO
import Derived.Test.YtkjaepcdhclmfaaPrL
import Derived.Test.YtkjaepcdhclmfaaPrM
import Derived.Test.YtkjaepcdhclmfaaPrN
import Derived.Test.YtkjaepcdhclmfaaClsR
import Derived.Deep.LoopGhost
import Derived.Deep.CutBlock
import Derived.Deep.DeepCutAuto
set_option linter.unusedVariables false
set_option linter.unusedSimpArgs false
namespace Go.Proofs.Ytkjaepcdhclmfaa
open Go.RowKit

/-- A row of rows of the call's own, that holds rows in kept memory: each with what it reads as. -/
structure DRow (w : World) (T : Nat → Prop) (B : Nat) (v : Value) (ps : List (Value × List Int)) : Prop where
  own : w.ownsRow B 22 1 v ps.length (ps.map Prod.fst)
  rows : ∀ x ∈ ps, RowT w T x.1 x.2
theorem RowT.isS {w : World} {T : Nat → Prop} {v : Value} {xs : List Int} (h : RowT w T v xs) : IsS v := by
  obtain ⟨a, c, e, _⟩ := h
  exact ⟨a, _, c, e⟩
theorem DRow.nil (w : World) (T : Nat → Prop) (B : Nat) : DRow w T B (.slice none 0 0) [] := ⟨World.ownsRow_nil _ _ _ _, by simp⟩
theorem DRow.hrow {w : World} {T : Nat → Prop} {B : Nat} {v : Value} {ps : List (Value × List Int)} (h : DRow w T B v ps) : HRow w v (ps.map Prod.fst) := HRow.own h.own (by simp)
theorem DRow.isS {w : World} {T : Nat → Prop} {B : Nat} {v : Value} {ps : List (Value × List Int)} (h : DRow w T B v ps) : ∀ u ∈ ps.map Prod.fst, IsS u := fun u hu => by
  obtain ⟨x, hx, rfl⟩ := List.mem_map.1 hu
  exact (h.rows x hx).isS
theorem DRow.rowsT {w : World} {T U : Nat → Prop} {B : Nat} {v : Value} {ps : List (Value × List Int)} (h : DRow w T B v ps) (hT : ∀ i, T i → U i) (hU : ∀ i, B ≤ i → i < w.heap.size → U i) : RowsT w U v (ps.map Prod.snd) := by
  obtain ⟨ho, hr⟩ := h
  rcases ho.2 with ⟨e0, e1⟩ | ⟨g, cap, cur, e0, hg, hh, h1, h2, _⟩
  · exact ⟨none, 0, by rw [e0, List.length_map, e1], by rw [List.length_map, e1]; exact Nat.le_refl _, by unfold maxLen; omega, .inl (by rw [List.length_map, e1])⟩
  · refine ⟨_, cap, by rw [e0, List.length_map], by simpa using h1, h2, ?_⟩
    subst e0
    have hgl : g < w.heap.size := by
      rcases Nat.lt_or_ge g w.heap.size with h' | h'
      · exact h'
      · rw [Array.getElem?_eq_none h'] at hh; cases hh
    refine .inr ⟨g, 0, rfl, hgl, hU g hg hgl, fun j hj => ?_⟩
    have hj' : j < ps.length := by simpa using hj
    have hc := ho.cells (g := g) rfl j ps[j].1 (by simp [hj'])
    rw [show (⟨g, 0, none⟩ : Addr).add j = ⟨g, 0 + j, none⟩ by unfold Addr.add; split <;> simp_all] at hc
    obtain ⟨a, c, e, k1, k2, k3⟩ := hr ps[j] (List.getElem_mem hj')
    refine ⟨_, hc, ?_⟩
    rw [show (ps.map Prod.snd).getD j [] = ps[j].2 by simp [List.getD, hj']]
    exact ⟨a, c, e, k1, k2, k3.imp id fun ⟨b, off, e, k4, k5, k6⟩ => ⟨b, off, e, k4, hT b k5, k6⟩⟩
theorem RowT.mono {w : World} {T U : Nat → Prop} {v : Value} {xs : List Int} (h : RowT w T v xs) (hT : ∀ i, T i → U i) : RowT w U v xs := by
  obtain ⟨a, c, e, h1, h2, h3⟩ := h
  exact ⟨a, c, e, h1, h2, h3.imp id fun ⟨b, off, e, h4, h5, h6⟩ => ⟨b, off, e, h4, hT b h5, h6⟩⟩
theorem RowsT.mono {w : World} {T U : Nat → Prop} {v : Value} {xss : List (List Int)} (h : RowsT w T v xss) (hT : ∀ i, T i → U i) : RowsT w U v xss := by
  obtain ⟨a, c, e, h1, h2, h3⟩ := h
  exact ⟨a, c, e, h1, h2, h3.imp id fun ⟨b, off, e, h4, h5, h6⟩ => ⟨b, off, e, h4, hT b h5, fun j hj => (h6 j hj).imp fun u ⟨g1, g2⟩ => ⟨g1, g2.mono hT⟩⟩⟩
/-- The row at a place. -/
theorem RowsT.at' {w : World} {T : Nat → Prop} {a : Option Addr} {n c : Nat} {xss : List (List Int)} (h : RowsT w T (.slice a n c) xss) {k : Nat} (hk : k < xss.length) : ∃ b off, a = some ⟨b, off, none⟩ ∧ b < w.heap.size ∧ ∃ v, w.cell? ⟨b, off + k, none⟩ = some v ∧ RowT w T v (xss.getD k []) := by
  obtain ⟨a', c', e, _, _, h⟩ := h
  injection e with e1 _ _
  subst e1
  obtain ⟨b, off, e, h4, _, h6⟩ := h.resolve_left (by omega)
  exact ⟨b, off, e, h4, h6 k hk⟩
theorem take_snocL (l : List (List Int)) (k : Nat) (h : k < l.length) : l.take (k + 1) = l.take k ++ [l.getD k []] := by
  rw [List.take_succ_eq_append_getElem h, show l.getD k [] = l[k] by simp [List.getD, h]]
/-- Two props that were told the same clauses, and the same decisions. -/
structure OrS (p1 p2 : Pr) (x y : Int) : Prop where
  s1 : SaidP p1 x
  s2 : SaidP p2 y
  c : SameC (clsP p1) (clsP p2)
  d : decP p1 = decP p2
  n1 : p1.n = 12
  n2 : p2.n = 12
  l1 : p1.cl.length ≤ 80
  l2 : p2.cl.length ≤ 80
theorem PrpR.cls {p p' : Pr} {x : Int} (h : PrpR p x p') : clsP p' = clsP p ∧ p'.n = p.n ∧ p'.cl.length = p.cl.length := by
  obtain ⟨h1, h2, _⟩ := h
  exact ⟨by unfold clsP; rw [h2], h1, by rw [h2]⟩
theorem decdP_cls (p : Pr) (z : Int) : clsP (decdP p z) = clsP p := by unfold clsP; rw [decdP_cl]
theorem OrS.start {p1 p2 q1 q2 : Pr} {x y : Int} (hc : SameC (clsP p1) (clsP p2)) (w1 : PrW p1) (w2 : PrW p2) (h1 : p1.n = 12 ∧ p1.st = [] ∧ p1.cl.length ≤ 80) (h2 : p2.n = 12 ∧ p2.st = [] ∧ p2.cl.length ≤ 80) (r1 : PrpR p1 x q1) (r2 : PrpR p2 y q2) : OrS q1 q2 x y where
  s1 := .of r1
  s2 := .of r2
  c := by rw [r1.cls.1, r2.cls.1]; exact hc
  d := by rw [r1.dec w1, r2.dec w2]; unfold decP; rw [h1.2.1, h2.2.1]; rfl
  n1 := by rw [r1.cls.2.1]; exact h1.1
  n2 := by rw [r2.cls.2.1]; exact h2.1
  l1 := by rw [r1.cls.2.2]; exact h1.2.2
  l2 := by rw [r2.cls.2.2]; exact h2.2.2
theorem OrS.next {p1 p2 q1 q2 : Pr} {x y x' y' z : Int} (h : OrS p1 p2 x y) (hx : x < 0) (w1 : PrW (decdP p1 z)) (w2 : PrW (decdP p2 z)) (r1 : PrpR (decdP p1 z) x' q1) (r2 : PrpR (decdP p2 z) y' q2) : OrS q1 q2 x' y' where
  s1 := .of r1
  s2 := .of r2
  c := by rw [r1.cls.1, r2.cls.1, decdP_cls, decdP_cls]; exact h.c
  d := by
    have hs := decOk_same (p := p1) (q := p2) (by rw [h.n1, h.n2]) ((h.s1.same h.s2 h.c h.d).2 hx) z
    rw [r1.dec w1, r2.dec w2]
    by_cases hk : decOk p1 z = true
    · rw [decdP_dec h.s1.wf hk, decdP_dec h.s2.wf (by rw [← hs]; exact hk), h.d]
    · have hk2 : ¬ decOk p2 z = true := by rw [← hs]; exact hk
      unfold decdP
      rw [if_neg hk, if_neg hk2, h.d]
  n1 := by rw [r1.cls.2.1, decdP_n]; exact h.n1
  n2 := by rw [r2.cls.2.1, decdP_n]; exact h.n2
  l1 := by rw [r1.cls.2.2, decdP_cl]; exact h.l1
  l2 := by rw [r2.cls.2.2, decdP_cl]; exact h.l2
/-- One row more, put into a place. -/
def insP {α : Type} (l : List α) (k : Nat) (x : α) : List α := l.take k ++ [x] ++ l.drop k
theorem insP_mem {α : Type} (l : List α) (k : Nat) (x y : α) : y ∈ insP l k x ↔ y ∈ l ∨ y = x := by
  unfold insP
  have h : y ∈ l ↔ y ∈ l.take k ∨ y ∈ l.drop k := by
    conv => lhs; rw [← List.take_append_drop k l, List.mem_append]
  rw [h]
  simp only [List.mem_append, List.mem_singleton]
  constructor
  · rintro ((a | a) | a)
    · exact .inl (.inl a)
    · exact .inr a
    · exact .inl (.inr a)
  · rintro ((a | a) | a)
    · exact .inl (.inl a)
    · exact .inr a
    · exact .inl (.inr a)
theorem insP_len {α : Type} (l : List α) (k : Nat) (x : α) (h : k ≤ l.length) : (insP l k x).length = l.length + 1 := by
  unfold insP; simp; omega
theorem take_memL (cs : List (List Int)) (k : Nat) (h : k < cs.length) (x : List Int) : x ∈ cs.take (k + 1) ↔ x ∈ cs.take k ∨ x = cs.getD k [] := by
  rw [List.take_succ_eq_append_getElem h, List.mem_append, List.mem_singleton, show cs.getD k [] = cs[k] by simp [List.getD, h]]
theorem DRow.ins {w w' : World} {T : Nat → Prop} {B : Nat} {v v' : Value} {ps : List (Value × List Int)} (h : DRow w T B v ps) (hk : Kp T w w') (k : Nat) (hkl : k ≤ ps.length) (u : Value) (c : List Int) (hu : RowT w' T u c)
    (ho : w'.ownsRow B 22 1 v' (ps.length + 1) ((ps.map Prod.fst).take k ++ [u] ++ (ps.map Prod.fst).drop k)) : DRow w' T B v' (insP ps k (u, c)) := by
  refine ⟨?_, fun x hx => ?_⟩
  · rw [insP_len _ _ _ hkl]
    unfold insP
    rw [List.map_append, List.map_append, List.map_take, List.map_drop]
    exact ho
  · rcases (insP_mem _ _ _ _).1 hx with hx | rfl
    · exact (h.rows x hx).keep hk
    · exact hu

set_option maxRecDepth 8000 in
set_option maxHeartbeats 8000000 in
theorem lawOr (la : Option Addr) (lc : Nat) (ls : List Int) (ov : Value) (os : List Int) (sv : Value) (ss : List Int) (w : World) (hl : RowAt w la lc ls) (ho : Row w ov os) (hs : Row w sv ss)
    (hli : ∀ y ∈ ls, -9223372036854775808 ≤ y ∧ y ≤ 9223372036854775807) (hoi : ∀ y ∈ os, -9223372036854775808 ≤ y ∧ y ≤ 9223372036854775807) (hsi : ∀ y ∈ ss, -9223372036854775808 ≤ y ∧ y ≤ 9223372036854775807) :
    Calls Try.prog 5 #[.slice la ls.length lc, ov, sv] w fun e w' => e = .returned (.bool true) ∧ Below w.heap.size w w' := by
  have HRL : Hid (∀ V, Below w.heap.size w V → Row V (.slice la ls.length lc) ls) := fun V hV => Row.keep ⟨la, lc, rfl, hl⟩ hV
  obtain ⟨hl1, hl2, hl3⟩ := hl
  obtain ⟨oa, oc, rfl, ho1, ho2, ho3⟩ := ho
  obtain ⟨sa, sc, rfl, hs1, hs2, hs3⟩ := hs
  unfold maxLen at hl2 ho2 hs2
  have HOX := Lib.hid ho3; clear ho3
  have HSX := Lib.hid hs3; clear hs3
  clear hl3
  have HLI := Lib.hid hli; clear hli
  have HOI : Hid (∀ k, k < os.length → -9223372036854775808 ≤ os.getD k 0 ∧ os.getD k 0 ≤ 9223372036854775807) := fun k hk => hoi _ (getD_mem hk)
  have HSI : Hid (∀ k, k < ss.length → -9223372036854775808 ≤ ss.getD k 0 ∧ ss.getD k 0 ≤ 9223372036854775807) := fun k hk => hsi _ (getD_mem hk)
  clear hoi hsi
  generalize hn : ls.length = n at *
  have HN := Lib.hid hn; clear hn
  generalize hm : os.length = m at *
  have HM := Lib.hid hm; clear hm
  generalize hr : ss.length = r at *
  have HR := Lib.hid hr; clear hr
  by_cases g1 : 80 < n
  · have d1 : decide ((80 : Int) < (n : Int)) = true := decide_eq_true (by omega)
    clear g1
    go_enter Try.func5, Try.ntmps5
    go_wp2_with (go_at_call 7; refine (first15_any _).mono ?_; rintro e w1 ⟨rfl, hb⟩)
    go_ret
    exact ⟨rfl, hb⟩
  have d1 : decide ((80 : Int) < (n : Int)) = false := decide_eq_false (by omega)
  by_cases g2 : 40 < m
  · have d2 : decide ((40 : Int) < (m : Int)) = true := decide_eq_true (by omega)
    clear g1 g2
    go_enter Try.func5, Try.ntmps5
    go_wp2_with (go_at_call 7; refine (first15_any _).mono ?_; rintro e w1 ⟨rfl, hb⟩)
    go_ret
    exact ⟨rfl, hb⟩
  have d2 : decide ((40 : Int) < (m : Int)) = false := decide_eq_false (by omega)
  by_cases g3 : 6 < r
  · have d3 : decide ((6 : Int) < (r : Int)) = true := decide_eq_true (by omega)
    clear g1 g2 g3
    go_enter Try.func5, Try.ntmps5
    go_wp2_with (go_at_call 7; refine (first15_any _).mono ?_; rintro e w1 ⟨rfl, hb⟩)
    go_ret
    exact ⟨rfl, hb⟩
  have d3 : decide ((6 : Int) < (r : Int)) = false := decide_eq_false (by omega)
  have hn80 : n ≤ 80 := by omega
  have hm40 : m ≤ 40 := by omega
  have hr6 : r ≤ 6 := by omega
  clear g1 g2 g3
  go_enter Try.func5, Try.ntmps5
  go_wp2_with fail
  refine (first15_any _).mono ?_
  rintro e w1 ⟨rfl, hb⟩
  have H0 := Lib.hid (ps_new hb 12 (by decide) (by decide))
  clear hb
  go_wp2_with fail
  refine H0.out.mono ?_
  rintro e w2 ⟨u, rfl, hG⟩
  obtain ⟨q, rfl⟩ := hG.ptr
  have HG := Lib.hid hG
  have H1 := Lib.hid (pnew_any w2 12 (by decide) (by decide))
  clear hG H0 d1 d2 d3
  go_wp2_with fail
  refine H1.out.mono ?_
  rintro e w3 ⟨u2, R3, rfl, hR3, hRn, hb3⟩
  obtain ⟨q2, rfl⟩ := hR3.ptr
  have HP3 := Lib.hid (P2.start HG.out hb3 hR3 hRn)
  have hra := row_at (HRL.out w3 HP3.out.bel)
  have H2 := Lib.hid (makeCl_any la lc ls 12 w3 (by decide) (by decide) hra.2 HLI.out (by rw [HN.out]; omega))
  rw [HN.out] at H2
  clear hR3 hRn hb3 HG hra H1
  go_wp2_with fail
  refine H2.out.mono ?_
  rintro e w4 ⟨⟨cv, xss, rfl, hcr, hx1, hx2, hx3⟩, hb4⟩
  have HRT : Hid (RowsT w4 (fun i => w3.heap.size ≤ i ∧ i < w4.heap.size) cv xss) := hcr.rowsT fun i h1 h2 => ⟨h1, h2⟩
  have HP4 : Hid (P2 w (fun i => w3.heap.size ≤ i ∧ i < w4.heap.size) (.pointer (some ⟨q, 0, none⟩)) (.pointer (some ⟨q2, 0, none⟩)) (newP 12) (newP 12) w4) := HP3.out.more hb4 fun i hi => .inr hi
  have HTB : Hid (∀ i, (fun i => w3.heap.size ≤ i ∧ i < w4.heap.size) i → i < w4.heap.size) := fun i hi => hi.2
  have HXI := Lib.hid (made_in (by decide) hx1)
  have HXL := Lib.hid (made_len hx2)
  have hb34 := hb4.size
  have HBW := Lib.hid HP4.out.bel
  obtain ⟨ca, cc, rfl, hcr1, hcr2, _⟩ := HRT.out
  unfold maxLen at hcr2
  clear hcr hx1 hx2 hb4 H2 HP3
  have HTU : Hid (∀ i, (fun i => w3.heap.size ≤ i ∧ i < w4.heap.size) i → w3.heap.size ≤ i) := fun i hi => hi.1
  have HTV : Hid (∀ i, w3.heap.size ≤ i → i < w4.heap.size → (fun i => w3.heap.size ≤ i ∧ i < w4.heap.size) i) := fun i h1 h2 => ⟨h1, h2⟩
  generalize (fun i => w3.heap.size ≤ i ∧ i < w4.heap.size) = T at *
  generalize hL : xss.length = N at *
  have HL := Lib.hid hL; clear hL
  go_wp2_with fail
  go_loopw [11, 12, 13, 14] (fun dv i _ _ wr => ∃ ps : List (Value × List Int), i = .int .i64 (ps.length : Int) ∧ ps.length ≤ N ∧ DRow wr T w4.heap.size dv ps ∧ Below w4.heap.size w4 wr ∧ (∀ x, x ∈ ps.map Prod.snd ↔ x ∈ xss.take ps.length)) (fun _ i _ _ _ => N - (intOf i).toNat)
  case atStart => exact ⟨[], rfl, Nat.zero_le _, DRow.nil _ _ _, Below.refl _ _, by simp⟩
  case round =>
    obtain ⟨ps, rfl, hpN, hD, hb, hmem⟩ := hrel
    have HD := Lib.hid hD
    have HB := Lib.hid hb
    have HMEM := Lib.hid hmem
    clear hD hb hmem
    by_cases hlt : ps.length < N
    · obtain ⟨da, dc, rfl, hd1, hd2, _⟩ := HD.out.hrow
      unfold maxLen at hd2
      rw [List.length_map] at hd1
      rw [List.length_map]
      rw [List.length_map] at HD
      generalize hK : ps.length = L at *
      have HPL := Lib.hid hK; clear hK
      go_upto_if 56 with fail
      go_cut [13] (fun kv W => ∃ K : Nat, K ≤ L ∧ kv = .int .i64 (K : Int) ∧ W = wr)
      case first =>
        by_cases hlm : L < m
        · have e1 : decide ((L : Int) < (m : Int)) = true := decide_eq_true (by omega)
          have e2 : decide (L < m) = true := decide_eq_true hlm
          obtain ⟨b, off, ha, hbl, hc⟩ := HOX.out.resolve_left (by omega)
          subst ha
          have hbb : Below w.heap.size w wr := HBW.out.trans (HB.out.mono HBW.out.size)
          have y0 := (hbb.cell (p := ⟨b, off + L, none⟩) hbl).trans (hc L hlm)
          have hyb := HOI.out L hlm
          clear hc hbb
          generalize os.getD L 0 = y at *
          obtain ⟨hy1, hy2⟩ := hyb
          obtain ⟨K, hK, hK1⟩ : ∃ K : Nat, y % ((L : Int) + 1) = (K : Int) ∧ K ≤ L := by
            have h1 := Int.emod_nonneg y (show ((L : Int) + 1) ≠ 0 by omega)
            have h2 := Int.emod_lt_of_pos y (show (0 : Int) < (L : Int) + 1 by omega)
            exact ⟨(y % ((L : Int) + 1)).toNat, by omega, by omega⟩
          have HNB := Lib.hid (number_any y ((L : Int) + 1) wr (by omega) (by omega) hy1 hy2)
          rw [hK] at HNB
          clear hK hy1 hy2
          rw [e2]
          go_wp2_with fail
          refine HNB.out.mono ?_
          rintro e w8 ⟨rfl, rfl⟩
          go_wp2_with fail
          go_meet
          exact ⟨K, hK1, rfl, rfl⟩
        · have e1 : decide ((L : Int) < (m : Int)) = false := decide_eq_false (by omega)
          have e2 : decide (L < m) = false := decide_eq_false hlm
          rw [e2]
          clear hlm
          go_wp2_with fail
          go_meet
          exact ⟨0, Nat.zero_le _, rfl, rfl⟩
      case rest =>
        obtain ⟨K, hKL, rfl, hwc⟩ := hcut
        subst hwc
        have hbsz := HB.out.size
        have hrt := HRT.out.keep (Kp.below HB.out HTB.out)
        obtain ⟨a', c', e', _, _, hd⟩ := hrt
        injection e' with e1 e2 e3
        subst e1; subst e3
        clear e2
        obtain ⟨b, off, ha, hbl, hTb, hdd⟩ := hd.resolve_left (by rw [HL.out]; omega)
        subst ha
        obtain ⟨rv, y0, hrow⟩ := hdd L (by rw [HL.out]; omega)
        have HY := Lib.hid y0
        have HROW := Lib.hid hrow
        obtain ⟨ra, rn, rc, rfl⟩ := hrow.isS
        clear hd hdd hrow y0
        have HHR := Lib.hid HD.out.hrow
        have HIS := Lib.hid HD.out.isS
        have HOW := Lib.hid HD.out.own
        generalize hus : ps.map Prod.fst = us at *
        have hul : us.length = L := by rw [← hus, List.length_map]; exact HPL.out
        have HUL := Lib.hid hul
        have how2 := HD.out.own.2
        clear hul
        have HFIN : Hid (∀ o' W', W'.ownsRow wc.heap.size 22 1 o' (L + 1) (us.take K ++ [.slice ra rn rc] ++ us.drop K) → Below wc.heap.size wc W' → ∃ ps' : List (Value × List Int), ps'.length = L + 1 ∧ DRow W' T w4.heap.size o' ps' ∧ Below w4.heap.size w4 W' ∧ ∀ x, x ∈ ps'.map Prod.snd ↔ x ∈ xss.take (L + 1)) := by
          intro o' W' ho' hb'
          have hkp : Kp T wc W' := Kp.below hb' (fun i hi => Nat.lt_of_lt_of_le (HTB.out i hi) HB.out.size)
          have hlen : (insP ps K ((Value.slice ra rn rc : Value), xss.getD L [])).length = L + 1 := by rw [insP_len _ _ _ (by rw [HPL.out]; exact hKL), HPL.out]
          refine ⟨insP ps K (.slice ra rn rc, xss.getD L []), hlen, HD.out.ins hkp K (by rw [HPL.out]; exact hKL) _ _ (HROW.out.keep hkp) (by rw [HPL.out, hus]; exact own_base ho' HB.out.size), HB.out.trans (hb'.mono HB.out.size), fun x => ?_⟩
          rw [take_memL xss L (by rw [HL.out]; exact hlt), ← HMEM.out]
          simp only [List.mem_map]
          constructor
          · rintro ⟨y, hy, rfl⟩
            rcases (insP_mem _ _ _ _).1 hy with hy | rfl
            · exact .inl ⟨y, hy, rfl⟩
            · exact .inr rfl
          · rintro (⟨y, hy, rfl⟩ | rfl)
            · exact ⟨y, (insP_mem _ _ _ _).2 (.inl hy), rfl⟩
            · exact ⟨_, (insP_mem _ _ _ _).2 (.inr rfl), rfl⟩
        have y1 := HY.out
        have HYB : Hid (∀ W', Below wc.heap.size wc W' → W'.cell? ⟨b, off + L, none⟩ = some (.slice ra rn rc)) := fun W' hW => (hW.cell (p := ⟨b, off + L, none⟩) hbl).trans HY.out
        clear y1 HROW hbsz HMEM
        rcases how2 with ⟨e0, e1⟩ | ⟨g, cap, cur, e0, hg, _, hc1, hc2, _⟩
        · injection e0 with e0 e2 e3
          subst e0; subst e2; subst e3
          clear e1
          obtain rfl : K = 0 := by omega
          have hun : us = [] := List.eq_nil_of_length_eq_zero HUL.out
          have HC := Lib.hid (clsR_any (.slice none 0 0) [] wc (by have := HHR.out; rwa [hun] at this) (by simp) (by simp))
          rw [hun] at HFIN
          clear hun HHR HIS HOW HD
          go_wp2_with fail
          refine HC.out.mono ?_
          rintro e w8 ⟨o8, rfl, ho8, hb8⟩
          obtain ⟨a8, c8, rfl, _⟩ := HRow.own ho8 rfl
          have y8 := HYB.out _ hb8
          rw [Nat.add_zero] at y8
          have hb8s := hb8.size
          go_wp2_with (first
            | (at_builtin; refine wpList_appV 27 22 (.slice none 0 0) 24 Try.underlying27 infoInts rfl (by decide) rfl _ _ rfl w8 wc.heap.size _ _ _ _ rfl ho8 hb8s (by simp) _ rfl rfl rfl ?_; intro o9 w9 ho9 hap9)
            | (at_builtin; refine wpList_appC 27 22 (.slice none 0 0) 1 24 Try.underlying27 infoInts rfl (by decide) (by decide) rfl _ _ rfl w9 wc.heap.size _ _ _ none 0 0 [] ho9 (by have := hap9.below.size; omega) (by simp) rfl (.inl rfl) (by simp) rfl rfl ?_; intro o10 w10 ho10 hap10))
          obtain ⟨ps', hl', hD', hB', hM'⟩ := HFIN.out o10 w10 (by simpa using ho10) ((hb8.trans (hap9.below.mono (Nat.le_refl _))).trans (hap10.below.mono (Nat.le_refl _)))
          have HD' := Lib.hid hD'
          have HB' := Lib.hid hB'
          have HM' := Lib.hid hM'
          clear hD' hB' hM'
          go_roundw
          case rel => exact ⟨ps', by rw [hl']; go_num, by omega, HD'.out, HB'.out, by rw [hl']; exact HM'.out⟩
          case measure => go_light; simp [intOf]; omega
        · injection e0 with e0 e1 e2
          subst e0; subst e2
          clear e1
          have hLd : L ≤ dc := hd1
          have hHd := HHR.out.head (k := K) (by rw [HUL.out]; exact hKL)
          have hKl : (us.take K).length = K := by simp; rw [HUL.out]; omega
          have HC := Lib.hid (clsR_any (.slice (some ⟨g, 0, none⟩) K dc) (us.take K) wc hHd (fun u hu => HIS.out u (List.mem_of_mem_take hu)) (by rw [hKl]; omega))
          have HOC : Hid (∀ W, Below wc.heap.size wc W → ∀ j u, (us.drop K)[j]? = some u → W.cell? ((⟨g, K, none⟩ : Addr).add j) = some u) := fun W hW j u hu => by
            have ho := own_keep HOW.out hW
            have := ho.cells (g := g) rfl (K + j) u (by rw [← hu, List.getElem?_drop])
            have e : (⟨g, K, none⟩ : Addr).add j = (⟨g, 0, none⟩ : Addr).add (K + j) := by
              unfold Addr.add
              by_cases h0 : j = 0
              · subst h0
                by_cases h1 : K = 0
                · subst h1; rfl
                · simp [h1]
              · simp [h0]
            rw [e]; exact this
          have HDL : Hid ((us.drop K).length = L - K) := by unfold Hid; simp; rw [HUL.out]
          have HDS : Hid (∀ u ∈ us.drop K, u.oneCell' = true) := fun u hu => by
            obtain ⟨x1, x2, x3, rfl⟩ := HIS.out u (List.mem_of_mem_drop hu)
            rfl
          rw [hKl] at HC
          clear hHd hKl HHR HIS HOW HD hc1 hc2
          go_wp2_with fail
          refine HC.out.mono ?_
          rintro e w8 ⟨o8, rfl, ho8, hb8⟩
          obtain ⟨a8, c8, rfl, _⟩ := HRow.own (us := us.take K) ho8 (by simp; rw [HUL.out]; omega)
          rw [show (us.take K).length = K by simp; rw [HUL.out]; omega] at *
          have y8 := HYB.out _ hb8
          have hb8s := hb8.size
          have hi1 : (0 : Int) ≤ (K : Int) := by omega
          have hi2 : (K : Int) ≤ (dc : Int) := by omega
          have hi3 : (K : Int) ≤ (L : Int) := by omega
          by_cases hcap : dc = K
          · obtain rfl : L = K := by omega
            subst hcap
            have HZ : Hid (us.drop dc = []) := List.eq_nil_of_length_eq_zero (by rw [HDL.out]; omega)
            go_wp2_with (first
              | (at_builtin; refine wpList_appV 27 22 (.slice none 0 0) 24 Try.underlying27 infoInts rfl (by decide) rfl _ _ rfl w8 wc.heap.size _ dc _ _ rfl ho8 hb8s (by omega) _ rfl rfl rfl ?_; intro o9 w9 ho9 hap9)
              | (at_builtin; refine wpList_appC 27 22 (.slice none 0 0) 1 24 Try.underlying27 infoInts rfl (by decide) (by decide) rfl _ _ rfl w9 wc.heap.size _ (dc + 1) _ _ 0 _ [] ho9 (by have := hap9.below.size; omega) (by omega) rfl (.inl rfl) (by simp) rfl rfl ?_; intro o10 w10 ho10 hap10))
            obtain ⟨ps', hl', hD', hB', hM'⟩ := HFIN.out o10 w10 (by rw [HZ.out]; simpa using ho10) ((hb8.trans (hap9.below.mono (Nat.le_refl _))).trans (hap10.below.mono (Nat.le_refl _)))
            have HD' := Lib.hid hD'
            have HB' := Lib.hid hB'
            have HM' := Lib.hid hM'
            clear hD' hB' hM'
            go_roundw
            case rel => exact ⟨ps', by rw [hl']; go_num, by omega, HD'.out, HB'.out, by rw [hl']; exact HM'.out⟩
            case measure => go_light; simp [intOf]; omega
          · go_wp2_with (first
              | (at_builtin; refine wpList_appV 27 22 (.slice none 0 0) 24 Try.underlying27 infoInts rfl (by decide) rfl _ _ rfl w8 wc.heap.size _ K _ _ rfl ho8 hb8s (by omega) _ rfl rfl rfl ?_; intro o9 w9 ho9 hap9)
              | (at_builtin; refine wpList_appC 27 22 (.slice none 0 0) 1 24 Try.underlying27 infoInts rfl (by decide) (by decide) rfl _ _ rfl w9 wc.heap.size _ (K + 1) _ _ (L - K) _ (us.drop K) ho9 (by have := hap9.below.size; omega) (by omega) (by rw [HDL.out]; omega) (.inr ⟨_, rfl, HOC.out _ (hb8.trans (hap9.below.mono (Nat.le_refl _)))⟩) HDS.out rfl rfl ?_; intro o10 w10 ho10 hap10))
            obtain ⟨ps', hl', hD', hB', hM'⟩ := HFIN.out o10 w10 (by rw [show L + 1 = K + 1 + (L - K) by omega]; exact ho10) ((hb8.trans (hap9.below.mono (Nat.le_refl _))).trans (hap10.below.mono (Nat.le_refl _)))
            have HD' := Lib.hid hD'
            have HB' := Lib.hid hB'
            have HM' := Lib.hid hM'
            clear hD' hB' hM'
            go_roundw
            case rel => exact ⟨ps', by rw [hl']; go_num, by omega, HD'.out, HB'.out, by rw [hl']; exact HM'.out⟩
            case measure => go_light; simp [intOf]; omega
    · have hkn : ps.length = N := by omega
      have hmem : ∀ x, x ∈ ps.map Prod.snd ↔ x ∈ xss := fun x => by rw [HMEM.out, hkn, List.take_of_length_le (by rw [HL.out]; exact Nat.le_refl _)]
      have hbs := HB.out.size
      have HP5 : Hid (P2 w (fun i => w3.heap.size ≤ i ∧ i < wr.heap.size) (.pointer (some ⟨q, 0, none⟩)) (.pointer (some ⟨q2, 0, none⟩)) (newP 12) (newP 12) wr) := HP4.out.more HB.out fun i hi => by
        rcases Nat.lt_or_ge i w4.heap.size with h | h
        · exact .inl (HTV.out i hi.1 h)
        · exact .inr ⟨h, hi.2⟩
      have hTU : ∀ i, T i → (fun i => w3.heap.size ≤ i ∧ i < wr.heap.size) i := fun i hi => ⟨HTU.out i hi, Nat.lt_of_lt_of_le (HTB.out i hi) hbs⟩
      have HC5 : Hid (RowsT wr (fun i => w3.heap.size ≤ i ∧ i < wr.heap.size) (.slice ca N cc) xss) := (HRT.out.keep (Kp.below HB.out HTB.out)).mono hTU
      have HD5 : Hid (RowsT wr (fun i => w3.heap.size ≤ i ∧ i < wr.heap.size) u11 (ps.map Prod.snd)) := HD.out.rowsT hTU fun i h1 h2 => ⟨by omega, h2⟩
      have HDL : Hid ((ps.map Prod.snd).length = N) := by unfold Hid; rw [List.length_map]; exact hkn
      obtain ⟨da, dc, rfl, hd1, hd2, _⟩ := HD5.out
      unfold maxLen at hd2
      have HMEM := Lib.hid hmem
      rw [HDL.out] at HD5 hd1
      rw [HDL.out]
      rw [hkn]
      clear hTU hmem HP4 HRT HD HB HTB HTU HTV hlt hkn hpN
      generalize ps.map Prod.snd = ds at *
      generalize (fun i => w3.heap.size ≤ i ∧ i < wr.heap.size) = U at *
      have HN0 : Hid ((newP 12).n = 12 ∧ (newP 12).st = [] ∧ (newP 12).cl.length ≤ 0 ∧ clsP (newP 12) = []) := ⟨by decide, rfl, Nat.le_refl _, rfl⟩
      generalize newP 12 = p0 at *
      go_wp2_with fail
      go_loopw [15] (fun i W => ∃ (k : Nat) (p1 p2 : Pr), k ≤ N ∧ i = .int .i64 (k : Int) ∧ P2 w U (.pointer (some ⟨q, 0, none⟩)) (.pointer (some ⟨q2, 0, none⟩)) p1 p2 W ∧ RowsT W U (.slice ca N cc) xss ∧ RowsT W U (.slice da N dc) ds ∧ Told 12 (xss.take k) (clsP p1) ∧ Told 12 (ds.take k) (clsP p2) ∧ (p1.n = 12 ∧ p1.st = [] ∧ p1.cl.length ≤ k) ∧ (p2.n = 12 ∧ p2.st = [] ∧ p2.cl.length ≤ k)) (fun i _ => N - (intOf i).toNat)
      case atStart => exact ⟨0, p0, p0, Nat.zero_le _, rfl, HP5.out, HC5.out, HD5.out, by rw [HN0.out.2.2.2]; exact Told.nil _, by rw [HN0.out.2.2.2]; exact Told.nil _, ⟨HN0.out.1, HN0.out.2.1, HN0.out.2.2.1⟩, ⟨HN0.out.1, HN0.out.2.1, HN0.out.2.2.1⟩⟩
      case round =>
        obtain ⟨k, p1, p2, hk, rfl, hP, hC, hD, ht1, ht2, hp1, hp2⟩ := hrel
        clear HP5 HC5 HD5 HN0
        have HP := Lib.hid hP
        have HC := Lib.hid hC
        have HD := Lib.hid hD
        have HT1 := Lib.hid ht1
        have HT2 := Lib.hid ht2
        have HQ1 := Lib.hid hp1
        have HQ2 := Lib.hid hp2
        clear hP hC hD ht1 ht2 hp1 hp2
        by_cases hlt : k < N
        · obtain ⟨b, off, ha, hbl, rv, y0, hrow⟩ := HC.out.at' (k := k) (by rw [HL.out]; exact hlt)
          subst ha
          have hmem1 := getD_memL (l := xss) (i := k) (by rw [HL.out]; exact hlt)
          have hA1 := Lib.hid (p2_add HP.out rv _ hrow.row (HXI.out _ hmem1) (by have := HXL.out _ hmem1; omega) (by have := HQ1.out.2.2; omega))
          have HTS1 := Lib.hid (take_snocL xss k (by rw [HL.out]; exact hlt))
          obtain ⟨ra, rn, rc, rfl⟩ := hrow.isS
          clear hrow hmem1
          generalize xss.getD k [] = c1 at *
          go_wp2_with fail
          refine hA1.out.mono ?_
          rintro e w8 ⟨y1, bb1, p1', hAR1, rfl, hP8, hK8⟩
          have HP8 := Lib.hid hP8
          have HC8 := Lib.hid (HC.out.keep hK8)
          have HD8 := Lib.hid (HD.out.keep hK8)
          have HT1' : Hid (Told 12 (xss.take (k + 1)) (clsP p1')) := by unfold Hid; rw [HTS1.out]; exact HT1.out.add HQ1.out.1 hAR1
          have HQ1' : Hid (p1'.n = 12 ∧ p1'.st = [] ∧ p1'.cl.length ≤ k + 1) := by
            obtain ⟨k1, k2, _, k4⟩ := hAR1.keepN
            have := HQ1.out
            exact ⟨by rw [k1]; exact this.1, by rw [k2]; exact this.2.1, by omega⟩
          clear hP8 hK8 hAR1 hA1 HP HC HD HT1 HQ1 y0 hbl
          obtain ⟨b2, off2, ha2, hbl2, rv2, y2, hrow2⟩ := HD8.out.at' (k := k) (by rw [HDL.out]; exact hlt)
          subst ha2
          have hmem2 := (HMEM.out _).1 (getD_memL (l := ds) (i := k) (by rw [HDL.out]; exact hlt))
          have hA2 := Lib.hid (p2_add HP8.out.swap rv2 _ hrow2.row (HXI.out _ hmem2) (by have := HXL.out _ hmem2; omega) (by have := HQ2.out.2.2; omega))
          have HTS2 := Lib.hid (take_snocL ds k (by rw [HDL.out]; exact hlt))
          obtain ⟨ra2, rn2, rc2, rfl⟩ := hrow2.isS
          clear hrow2 hmem2
          generalize ds.getD k [] = c2 at *
          go_wp2_with fail
          refine hA2.out.mono ?_
          rintro e w9 ⟨y3, bb2, p2', hAR2, rfl, hP9, hK9⟩
          have HP9 := Lib.hid hP9.swap
          have HC9 := Lib.hid (HC8.out.keep hK9)
          have HD9 := Lib.hid (HD8.out.keep hK9)
          have HT2' : Hid (Told 12 (ds.take (k + 1)) (clsP p2')) := by unfold Hid; rw [HTS2.out]; exact HT2.out.add HQ2.out.1 hAR2
          have HQ2' : Hid (p2'.n = 12 ∧ p2'.st = [] ∧ p2'.cl.length ≤ k + 1) := by
            obtain ⟨k1, k2, _, k4⟩ := hAR2.keepN
            have := HQ2.out
            exact ⟨by rw [k1]; exact this.1, by rw [k2]; exact this.2.1, by omega⟩
          clear hP9 hK9 hAR2 hA2 HP8 HC8 HD8 HT2 HQ2
          go_wp2_with fail
          go_roundw
          case rel => exact ⟨k + 1, p1', p2', by omega, by go_num, HP9.out, HC9.out, HD9.out, HT1'.out, HT2'.out, HQ1'.out, HQ2'.out⟩
          case measure => go_light; simp [intOf]; omega
        · have hkn : k = N := by omega
          have e1 : decide ((k : Int) < (N : Int)) = false := decide_eq_false (by omega)
          have e2 : decide (k < N) = false := decide_eq_false hlt
          have HSC : Hid (SameC (clsP p1) (clsP p2)) := by
            have h1 := HT1.out
            have h2 := HT2.out
            rw [hkn, List.take_of_length_le (by rw [HL.out]; exact Nat.le_refl _)] at h1
            rw [hkn, List.take_of_length_le (by rw [HDL.out]; exact Nat.le_refl _)] at h2
            exact h1.same h2 fun x => (HMEM.out x).symm
          have h1 := HQ1.out
          have h2 := HQ2.out
          have HK1 : Hid (p1.n = 12 ∧ p1.st = [] ∧ p1.cl.length ≤ 80) := ⟨h1.1, h1.2.1, by omega⟩
          have HK2 : Hid (p2.n = 12 ∧ p2.st = [] ∧ p2.cl.length ≤ 80) := ⟨h2.1, h2.2.1, by omega⟩
          have HW1 := Lib.hid HP.out.left.wf
          have HW2 := Lib.hid HP.out.right.wf
          have HA := Lib.hid (p2_prop HP.out (by have := HK1.out.2.2; omega))
          clear h1 h2 HQ1 HQ2 HC HD HT1 HT2 hkn hlt HP
          go_wp2_with fail
          refine HA.out.mono ?_
          rintro e w8 ⟨x0, q1, hr1, rfl, hP8, _⟩
          have HR1 := Lib.hid hr1
          have HB := Lib.hid (p2_prop hP8.swap (by have := HK2.out.2.2; omega))
          clear hr1 hP8 HA
          go_wp2_with fail
          refine HB.out.mono ?_
          rintro e w9 ⟨y0, q2', hr2, rfl, hP9, _⟩
          have HP9 := Lib.hid hP9.swap
          have HO := Lib.hid (OrS.start HSC.out HW1.out HW2.out HK1.out HK2.out HR1.out hr2)
          clear hr2 hP9 HB HK1 HK2 HW1 HW2 HR1 HSC e1 e2
          go_wp2_with fail
          go_loopw [16, 17, 18, 19] (fun xv yv iv _ W => ∃ (k : Nat) (x y : Int) (p1 p2 : Pr), k ≤ r ∧ xv = .int .i64 x ∧ yv = .int .i64 y ∧ iv = .int .i64 (k : Int) ∧ P2 w U (.pointer (some ⟨q, 0, none⟩)) (.pointer (some ⟨q2, 0, none⟩)) p1 p2 W ∧ OrS p1 p2 x y) (fun _ _ iv _ _ => r - (intOf iv).toNat)
          case atStart => exact ⟨0, x0, y0, q1, q2', Nat.zero_le _, rfl, rfl, rfl, HP9.out, HO.out⟩
          case round =>
            obtain ⟨k3, x, y, p3, p4, hk3, rfl, rfl, rfl, hP, hO⟩ := hrel
            clear HP9 HO
            have HP := Lib.hid hP
            have HO := Lib.hid hO
            have hsame := (hO.s1.same hO.s2 hO.c hO.d)
            clear hP hO
            by_cases hx : 0 ≤ x
            · have hy : 0 ≤ y := hsame.1.1 hx
              clear hsame
              by_cases hlt : k3 < r
              · have e1 : decide ((k3 : Int) < (r : Int)) = true := decide_eq_true (by omega)
                have e2 : decide (k3 < r) = true := decide_eq_true hlt
                have a1 : decide (x < 0) = false := decide_eq_false (by omega)
                have a2 : decide (y < 0) = false := decide_eq_false (by omega)
                have a3 : decide (0 ≤ x) = true := decide_eq_true hx
                have HBE := Lib.hid HP.out.bel
                clear hx hy
                go_wp2_with fail
                go_ret
                exact ⟨rfl, HBE.out⟩
              · have e1 : decide ((k3 : Int) < (r : Int)) = false := decide_eq_false (by omega)
                have e2 : decide (k3 < r) = false := decide_eq_false hlt
                have a1 : decide (x < 0) = false := decide_eq_false (by omega)
                have a2 : decide (y < 0) = false := decide_eq_false (by omega)
                have a3 : decide (0 ≤ x) = true := decide_eq_true hx
                have HBE := Lib.hid HP.out.bel
                clear hx hy
                go_wp2_with fail
                go_ret
                exact ⟨rfl, HBE.out⟩
            · have hxn : x < 0 := by omega
              have hyn : y < 0 := by
                rcases (show y < 0 ∨ 0 ≤ y by omega) with h | h
                · exact h
                · exact absurd (hsame.1.2 h) hx
              have HSM := Lib.hid (hsame.2 hxn)
              have HXN := Lib.hid hxn
              have a1 : decide (x < 0) = true := decide_eq_true hxn
              have a2 : decide (y < 0) = true := decide_eq_true hyn
              have a3 : decide (0 ≤ x) = false := decide_eq_false hx
              clear hsame hxn hyn hx
              by_cases hlt : k3 < r
              · have e1 : decide ((k3 : Int) < (r : Int)) = true := decide_eq_true (by omega)
                have e2 : decide (k3 < r) = true := decide_eq_true hlt
                obtain ⟨b, off, ha, hbl, hd⟩ := HSX.out.resolve_left (by omega)
                subst ha
                have y9 := (HP.out.bel.cell (p := ⟨b, off + k3, none⟩) hbl).trans (hd k3 hlt)
                have hyb := HSI.out k3 hlt
                clear hd
                generalize ss.getD k3 0 = sy at *
                have hxb := litOf_bd sy 12 (by decide)
                have HLT := Lib.hid (lit_any sy 12 wr (by decide) (by decide) hyb.1 hyb.2)
                generalize litOf sy 12 = z at *
                obtain ⟨hz1, hz2, hz3⟩ : -9223372036854775807 ≤ z ∧ z ≤ 9223372036854775807 ∧ True := ⟨by omega, by omega, trivial⟩
                have HD1 := Lib.hid (p2_dec HP.out z hz1 hz2)
                have HSO := Lib.hid (decOk_same (p := p3) (q := p4) (by rw [HO.out.n1, HO.out.n2]) HSM.out z)
                clear hxb hyb hz3
                have hbb : (decOk p3 z != decOk p3 z) = false := by simp
                go_wp2_with fail
                refine HLT.out.mono ?_
                rintro e w10 ⟨rfl, rfl⟩
                go_wp2_with fail
                refine HD1.out.mono ?_
                rintro e w11 ⟨rfl, hP11, _⟩
                have HD2 := Lib.hid (p2_dec hP11.swap z hz1 hz2)
                rw [← HSO.out] at HD2
                clear hP11 HD1 HP HLT
                generalize hbo : decOk p3 z = bo at *
                clear hbo
                go_wp2_with fail
                refine HD2.out.mono ?_
                rintro e w12 ⟨rfl, hP12, _⟩
                have HW1 := Lib.hid hP12.right.wf
                have HW2 := Lib.hid hP12.left.wf
                have HA := Lib.hid (p2_prop hP12.swap (by rw [decdP_cl]; have := HO.out.l1; omega))
                clear hP12 HD2
                go_wp2_with fail
                refine HA.out.mono ?_
                rintro e w13 ⟨x5, p5, hr5, rfl, hP13, _⟩
                have HR5 := Lib.hid hr5
                have HB := Lib.hid (p2_prop hP13.swap (by rw [decdP_cl]; have := HO.out.l2; omega))
                clear hr5 hP13 HA
                go_wp2_with fail
                refine HB.out.mono ?_
                rintro e w14 ⟨y5, p6, hr6, rfl, hP14, _⟩
                have HP14 := Lib.hid hP14.swap
                have HO5 := Lib.hid (HO.out.next HXN.out HW1.out HW2.out HR5.out hr6)
                clear hr6 hP14 HB HW1 HW2 HR5 HO a1 a2 a3 e1 e2
                go_wp2_with fail
                go_roundw
                case rel => exact ⟨k3 + 1, x5, y5, p5, p6, by omega, rfl, rfl, by go_num, HP14.out, HO5.out⟩
                case measure => go_light; simp [intOf]; omega
              · have e1 : decide ((k3 : Int) < (r : Int)) = false := decide_eq_false (by omega)
                have e2 : decide (k3 < r) = false := decide_eq_false hlt
                have hwl := HP.out.left.wf
                have hwr := HP.out.right.wf
                have HTA := Lib.hid (HP.out.left.use fun S hS => ptrl_any wr hS)
                have HTI : Hid (InW p3.tr ∧ p3.tr.length < 1000000000) := ⟨hwl.tr_in, by have := hwl.tr_len; have := hwl.n; omega⟩
                have HTJ : Hid (InW p4.tr ∧ p4.tr.length < 1000000000) := ⟨hwr.tr_in, by have := hwr.tr_len; have := hwr.n; omega⟩
                clear hwl hwr hlt
                go_wp2_with fail
                refine HTA.out.mono ?_
                rintro e w10 ⟨u1, rfl, hu1, hb10⟩
                have HP10 := Lib.hid (HP.out.keep hb10)
                have HS1 := Lib.hid (sorted_any u1 _ w10 hu1 HTI.out.1 HTI.out.2)
                obtain ⟨a10, c10, rfl, _⟩ := hu1
                clear hb10 HP HTA
                go_wp2_with fail
                refine HS1.out.mono ?_
                rintro e w11 ⟨v1, l1, rfl, hn1, hrw1, hb11⟩
                have HP11 := Lib.hid (HP10.out.keep hb11)
                have HN1 := Lib.hid hn1
                have HRW := Lib.hid hrw1
                have HTB := Lib.hid (HP11.out.right.use fun S hS => ptrl_any w11 hS)
                obtain ⟨a11, c11, rfl, _⟩ := hrw1
                clear hb11 HP10 HS1 hn1
                go_wp2_with fail
                refine HTB.out.mono ?_
                rintro e w12 ⟨u2, rfl, hu2, hb12⟩
                have HP12 := Lib.hid (HP11.out.keep hb12)
                have HRW2 := Lib.hid (HRW.out.keep hb12)
                have HS2 := Lib.hid (sorted_any u2 _ w12 hu2 HTJ.out.1 HTJ.out.2)
                obtain ⟨a12, c12, rfl, _⟩ := hu2
                clear hb12 HP11 HTB HRW
                go_wp2_with fail
                refine HS2.out.mono ?_
                rintro e w13 ⟨v2, l2, rfl, hn2, hrw2, hb13⟩
                have HP13 := Lib.hid (HP12.out.keep hb13)
                have hll : l1 = l2 := HN1.out.uniq hn2 HSM.out
                have HQ := Lib.hid (sameInts_any _ v2 l1 l2 w13 (HRW2.out.keep hb13) hrw2)
                rw [decide_eq_true hll] at HQ
                obtain ⟨a13, c13, rfl, _⟩ := hrw2
                clear hb13 HP12 HS2 hn2 hll
                go_wp2_with fail
                refine HQ.out.mono ?_
                rintro e w14 ⟨rfl, hd14⟩
                have HBE := Lib.hid (HP13.out.keep (below_draws hd14)).bel
                clear hd14
                go_wp2_with fail
                go_ret
                exact ⟨rfl, HBE.out⟩
end Go.Proofs.Ytkjaepcdhclmfaa
