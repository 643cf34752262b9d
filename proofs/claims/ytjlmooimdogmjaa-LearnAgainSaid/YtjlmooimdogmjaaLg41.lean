/- skolemlaw16.first; the prop that conflict makes beside its rows ('CfA', 'CfB'). Conditions: none but those typed. · The rows that PropPlays keeps beside its prop in its second loop: the decisions, the levels, the clauses, their ids. No conditions beyond those typed. · skolemlaw16.conflict: a prop of clauses, decided on until one is wrong. Conditions: the arguments read as 64-bit ints, of at most 120 and 12. -/
import Derived.Test.YtjlmooimdogmjaaLg39
import Derived.Test.YtjlmooimdogmjaaLg40
import Derived.Test.YtjlmooimdogmjaaLg38
import Derived.Deep.LoopGhost
import Derived.Deep.CutBlock
import Derived.Deep.DeepCutAuto
set_option linter.unusedVariables false
set_option linter.unusedSimpArgs false
set_option linter.unusedVariables false
set_option linter.unusedSimpArgs false
namespace Go.Proofs.Ytjlmooimdogmjaa
open Go.RowKit

/-- The two clauses of the example: a clause is wrong, and its lesson is the opposite of the decision. -/
theorem first16_pure {p q : Pr} {x : Int} {c1 c2 : List Int} (hcl : p.cl = [some c1, some c2]) (h1 : NrmP [-1, 2] c1) (h2 : NrmP [-1, -2] c2) (htr : p.tr = []) (hst : p.st = []) (ho : decOk p 1 = true) (hR : PrpR (decdP p 1) x q) : ∃ (k : Nat) (c : List Int), x = (k : Int) ∧ k ≤ 1 ∧ q.cl.getD k none = some c ∧ AllF q c ∧ c ≠ [] ∧ q.st ≠ [] ∧ q.cl.length = 2 ∧ ∀ d u r, d.Perm c → LesR q d u r → u = -1 ∧ r = [] := by
  have e : decdP p 1 = { p with tr := [1], rs := p.rs ++ [-1], st := [0] } := by unfold decdP; rw [if_pos ho, htr, hst]; rfl
  obtain ⟨_, r2, r3, ⟨m, _, r4, _⟩, hw, r6⟩ := hR
  rw [e] at r2 r3 r4
  simp only at r2 r3 r4
  have h1q : (1 : Int) ∈ q.tr := by rw [r4]; simp
  have hne : ¬ CldP q := fun hc => by
    have ha : ∀ c', c' ∈ clsP q → ∀ y : Int, NrmP [-1, y] c' → y ∈ q.tr := fun c' hc' y hy => by
      rcases hc c' hc' with ⟨l, hl, ht⟩ | ⟨a, ha, b, hb, hab, na, nb⟩
      · have := (hy.2 l).1 hl
        simp at this
        rcases this with rfl | rfl
        · exact (hw.not_both ht (by simpa using h1q)).elim
        · exact ht
      · have e1 := (hy.2 a).1 ha
        have e2 := (hy.2 b).1 hb
        simp at e1 e2
        rcases e1 with rfl | rfl
        · exact absurd (by simpa using h1q) na
        · rcases e2 with rfl | rfl
          · exact absurd (by simpa using h1q) nb
          · exact absurd rfl hab
    have m1 := ha c1 (mem_clsP.2 ⟨0, by rw [r2, hcl]; rfl⟩) 2 h1
    have m2 := ha c2 (mem_clsP.2 ⟨1, by rw [r2, hcl]; rfl⟩) (-2) h2
    exact hw.not_both m1 m2
  rcases r6 with ⟨_, hc⟩ | ⟨k, c, hx, hc, hf⟩
  · exact (hne hc).elim
  · have hk : k ≤ 1 ∧ (-1 : Int) ∈ c := by
      rw [r2, hcl] at hc
      match k, hc with
      | 0, hc => simp at hc; subst hc; exact ⟨by omega, (h1.2 _).2 (by simp)⟩
      | 1, hc => simp at hc; subst hc; exact ⟨by omega, (h2.2 _).2 (by simp)⟩
      | n + 2, hc => simp [List.getD] at hc
    have hn : c ≠ [] := fun e => by rw [e] at hk; simp at hk
    refine ⟨k, c, hx, hk.1, hc, hf, hn, by rw [r3]; simp, by rw [r2, hcl]; rfl, fun d u r hd hL => ?_⟩
    have hL' := hL.perm hd
    have hlv : ∀ i, lvI q i = 1 := fun i => by unfold lvI; rw [r3]; simp
    have ht : topL q c = 1 := by
      rcases topL_some (p := q) c with h0 | ⟨l, hl, e⟩
      · exfalso
        obtain ⟨i, hi, _, _, e3⟩ := AllF.lev hw hf hk.2
        have := topL_ge (p := q) c (-1) hk.2
        rw [e3, hlv i] at this
        omega
      · obtain ⟨i, hi, _, _, e3⟩ := AllF.lev hw hf hl
        rw [← e, e3, hlv i]; rfl
    have hr : r = [] := by
      cases r with
      | nil => rfl
      | cons y r =>
        obtain ⟨k1, k2, k3⟩ := hL'.rst y (by simp)
        omega
    refine ⟨?_, hr⟩
    have hz : 0 < q.tr.length := by rw [r4]; simp
    have hv0 : vrI q 0 = ((plc (-1) : Nat) : Int) := by unfold vrI; rw [r4]; rfl
    have h1 := hL'.uip (-1) hk.2 (by
      obtain ⟨i, hi, _, _, e3⟩ := AllF.lev hw hf hk.2
      rw [e3, hlv i, ht]; rfl)
    rw [← hv0, hw.ixI hz] at h1
    obtain ⟨i, hi, e1, e2⟩ := tr_at hL'.tu
    rw [plc_negate] at e2
    rw [← e2, hw.ixI hi] at h1
    have : i = 0 := by omega
    subst this
    rw [r4] at e1
    simp [List.getD] at e1
    omega

set_option maxRecDepth 8000 in
set_option maxHeartbeats 2000000 in
theorem first16_any (w : World) :
    Calls Try.prog 8 #[] w fun e w' => e = .returned (.bool true) ∧ Below w.heap.size w w' := by
  have HN := Lib.hid (ps_new (Below.refl w.heap.size w) 2 (by decide) (by decide))
  have HOK : Hid (addOk (newP 2).n [-1, 2] = true) := by unfold Hid; decide
  have HOK2 : Hid (∀ c, addOk (addP (newP 2) c).n [-1, -2] = true) := fun c => by show addOk (newP 2).n [-1, -2] = true; decide
  go_enter Try.func8, Try.ntmps8
  go_wp2_with fail
  refine HN.out.mono ?_
  rintro e w1 ⟨v, rfl, hG⟩
  obtain ⟨q, rfl⟩ := hG.ptr
  have H1 := Lib.hid (ps_add (hG.alloc _) _ [-1, 2] (row2 w1 (-1) 2) (by intro x hx; simp at hx; omega) (by simp) (by simp [newP]) HOK.out)
  clear hG
  go_wp2_with fail
  refine H1.out.mono ?_
  rintro e w2 ⟨c1, hc1, rfl, hG⟩
  have H2 := Lib.hid (ps_add (hG.alloc _) _ [-1, -2] (row2 w2 (-1) (-2)) (by intro x hx; simp at hx; omega) (by simp) (by simp [newP, addP]) (HOK2.out c1))
  have HC1 := Lib.hid hc1
  clear hG hc1
  go_wp2_with fail
  refine H2.out.mono ?_
  rintro e w3 ⟨c2, hc2, rfl, hG⟩
  have HC2 := Lib.hid hc2
  have hdo : decOk (addP (addP (newP 2) c1) c2) 1 = true := by unfold decOk addP newP valP cutP; simp [plc, absI]; decide
  have H3 := Lib.hid (ps_dec hG 1 (by decide) (by decide))
  rw [hdo] at H3
  have HDO := Lib.hid hdo
  clear hG hc2 hdo
  go_wp2_with fail
  refine H3.out.mono ?_
  rintro e w4 ⟨rfl, hG⟩
  have H4 := Lib.hid (ps_prop hG (by unfold decdP; rw [if_pos HDO.out]; simp [addP, newP]))
  clear hG
  go_wp2_with fail
  refine H4.out.mono ?_
  rintro e w5 ⟨x, p', hR, rfl, hG⟩
  obtain ⟨k, c, rfl, hk1, hkc, hf, hne, hst, hln, hles⟩ := first16_pure (p := addP (addP (newP 2) c1) c2) (by simp [addP, newP]) HC1.out HC2.out rfl rfl HDO.out hR
  have HLES := Lib.hid hles
  have HG := Lib.hid hG
  have H5 := Lib.hid (hG.use fun S hS => from_any w5 hS (by omega) k c hkc hf hne hst)
  have HLN := Lib.hid hln
  clear hR hG hkc hf hne hst hles hln H4 H3 H2 H1 HN
  go_wp2_with fail
  refine H5.out.mono ?_
  rintro e w6 ⟨u, r, cv, sv, rfl, hrow, ⟨sa, sn, sc, rfl⟩, hL, hb⟩
  obtain ⟨rfl, rfl⟩ := HLES.out c u r (List.Perm.refl _) hL
  have HB6 := Lib.hid (HG.out.keep hb)
  obtain ⟨ca, cc, rfl, hc1', hc2', hc3'⟩ := hrow.row
  obtain ⟨cb, co, rfl, hcb, hcell⟩ := hc3'.resolve_left (by simp)
  have y0 := hcell 0 (by simp)
  simp only [List.getD_cons_zero, Nat.add_zero] at y0
  have H6 := Lib.hid (fun V (hV : Below w6.heap.size w6 V) => (HB6.out.keep hV).use fun S hS => from_no V hS 99 (by decide) (by simp [List.getD, List.getElem?_eq_none (show p'.cl.length ≤ 99 by rw [HLN.out]; omega)]))
  have htl : topL p' [] = 0 := rfl
  rw [htl]
  clear hrow hL hb H5 HLES htl hc3'
  generalize ((ddL (([-1] : List Int).map fun l => levP p' (plc l : Int))).length : Int) = z9 at *
  go_wp2_with fail
  generalize hX : w6.alloc (.cells #[.slice (some ⟨cb, co, none⟩) 1 cc, .int .i64 0, .int .i64 z9, .slice sa sn sc] 29) = wx at *
  have hxb : Below w6.heap.size w6 wx := by rw [← hX]; exact (Below.refl _ _).alloc (Nat.le_refl _) _
  have hxs : wx.heap.size = w6.heap.size + 1 := by rw [← hX]; exact Array.size_push _
  have hx0 : wx.cell? ⟨w6.heap.size, 0, none⟩ = some (.slice (some ⟨cb, co, none⟩) 1 cc) ∧ wx.cell? ⟨w6.heap.size, 1, none⟩ = some (.int .i64 0) := by
    rw [← hX]
    constructor <;> (unfold World.cell?; rw [show (w6.alloc _).heap[w6.heap.size]? = _ from heap_alloc_new w6 _]; rfl)
  have HX0 := Lib.hid hx0
  have HXB := Lib.hid hxb
  have HXS := Lib.hid hxs
  clear hX hxb hxs hx0
  refine (H6.out _ HXB.out).mono ?_
  rintro e w7 ⟨rfl, hb7⟩
  have HB7 : Hid (∀ V, Below w7.heap.size w7 V → V.cell? ⟨w6.heap.size, 0, none⟩ = some (.slice (some ⟨cb, co, none⟩) 1 cc) ∧ V.cell? ⟨w6.heap.size, 1, none⟩ = some (.int .i64 0) ∧ V.cell? ⟨cb, co, none⟩ = some (.int .i64 (-1)) ∧ Below w.heap.size w V) := fun V hV => by
    have h1 : Below wx.heap.size wx V := hb7.trans (hV.mono hb7.size)
    have h2 : w6.heap.size < wx.heap.size := by rw [HXS.out]; exact Nat.lt_succ_self _
    have h3 : Below w6.heap.size w6 V := HXB.out.trans (h1.mono (Nat.le_of_lt h2))
    have h4 := HB6.out.bel
    exact ⟨(h1.cell (p := ⟨w6.heap.size, 0, none⟩) h2).trans HX0.out.1, (h1.cell (p := ⟨w6.heap.size, 1, none⟩) h2).trans HX0.out.2, (h3.cell (p := ⟨cb, co, none⟩) hcb).trans y0, h4.trans (h3.mono h4.size)⟩
  obtain ⟨q0, q1, q2, _⟩ := HB7.out (w7.alloc (.cells #[.slice none 0 0, .int .i64 0, .int .i64 0, .slice none 0 0] 29)) ((Below.refl _ _).alloc (Nat.le_refl _) _)
  have hk0 : (0 : Int) ≤ (k : Int) := by omega
  clear y0 hb7 H6
  go_wp2_with fail
  go_ret
  exact ⟨rfl, (HB7.out _ ((Below.refl _ _).alloc (Nat.le_refl _) _)).2.2.2⟩
end Go.Proofs.Ytjlmooimdogmjaa

set_option linter.unusedVariables false
set_option linter.unusedSimpArgs false
namespace Go.Proofs.Ytjlmooimdogmjaa
open Go.RowKit

def cellsD (p : Pr) : List Value := (decP p).map (Value.int .i64)
def cellsL (p : Pr) : List Value := (List.range (p.st.length + 1)).map fun (i : Nat) => Value.int .i64 (i : Int)
structure PlB (w W : World) (v : Value) (p : Pr) (dv lv cv iv : Value) (ps : List CI) : Prop where
  ex : ∃ T TI, PlS w T TI v p [(3, dv, cellsD p), (3, lv, cellsL p), (22, cv, cellsC ps), (3, iv, cellsI ps)] W ∧ CIs W TI p ps
section
variable {w W W1 : World} {v : Value} {p q : Pr} {dv lv cv iv fv : Value} {xss : List (List Int)} {ps : List CI}
theorem PlB.start (h : PlA w W v p p cv iv fv xss ps) (hst : p.st = []) : PlB w (W.alloc (.cells #[.int .i64 0] 3)) v p (.slice none 0 0) (.slice (some ⟨W.heap.size, 0, none⟩) 1 1) cv iv ps := by
  obtain ⟨T, TI, h1, _, h3⟩ := h.ex
  have hb : Below W.heap.size W (W.alloc (.cells #[.int .i64 0] 3)) := (Below.refl _ _).alloc (Nat.le_refl _) _
  have ho : (W.alloc (.cells #[.int .i64 0] 3)).ownsRow W.heap.size 3 1 (.slice (some ⟨W.heap.size, 0, none⟩) 1 1) [Value.int .i64 0].length [Value.int .i64 0] :=
    ⟨rfl, .inr ⟨W.heap.size, 1, _, rfl, Nat.le_refl _, heap_alloc_new W _, Nat.le_refl _, by decide, rfl, rfl⟩⟩
  have s1 := ((h1.none 3).fresh hb ho).none 3
  have eL : cellsL p = [Value.int .i64 0] := by unfold cellsL; rw [hst]; rfl
  have eD : cellsD p = [] := by unfold cellsD decP; rw [hst]; rfl
  refine ⟨⟨fun i => T i ∨ NewB W (W.alloc (.cells #[.int .i64 0] 3)) i, TI, ?_, h3.keep (h1.kpB hb) (fun _ h => h) rfl⟩⟩
  rw [eL, eD]
  exact s1
theorem PlB.keep (h : PlB w W v p dv lv cv iv ps) (hb : Below W.heap.size W W1) : PlB w W1 v p dv lv cv iv ps := by
  obtain ⟨T, TI, h1, h3⟩ := h.ex
  exact ⟨T, TI, h1.keep hb, h3.keep (h1.kpB hb) (fun _ h => h) rfl⟩
theorem PlB.bel (h : PlB w W v p dv lv cv iv ps) : Below w.heap.size w W := by
  obtain ⟨T, TI, h1, _⟩ := h.ex
  exact h1.pt.bel
theorem PlB.wf (h : PlB w W v p dv lv cv iv ps) : PrW p := by
  obtain ⟨T, TI, h1, _⟩ := h.ex
  exact h1.pt.wf
theorem PlB.own (h : PlB w W v p dv lv cv iv ps) : W.ownsRow w.heap.size 3 1 dv (cellsD p).length (cellsD p) ∧ W.ownsRow w.heap.size 3 1 lv (cellsL p).length (cellsL p) ∧ W.ownsRow w.heap.size 22 1 cv (cellsC ps).length (cellsC ps) ∧ W.ownsRow w.heap.size 3 1 iv (cellsI ps).length (cellsI ps) := by
  obtain ⟨T, TI, h1, _⟩ := h.ex
  exact ⟨h1.own (3, dv, cellsD p) (by simp), h1.own (3, lv, cellsL p) (by simp), h1.own (22, cv, cellsC ps) (by simp), h1.own (3, iv, cellsI ps) (by simp)⟩
theorem PlB.rows (h : PlB w W v p dv lv cv iv ps) : ∃ a c, cv = .slice a ps.length c ∧ RowsAt W a c (ps.map fun x => x.2.1) := by
  have hC := h.own.2.2.1
  have hl : (cellsC ps).length = ps.length := by unfold cellsC; rw [List.length_map]
  rw [hl] at hC
  obtain ⟨a, c, e, hc1, hc2⟩ := own_shape hC
  refine ⟨a, c, e, by rw [List.length_map]; exact hc1, hc2, ?_⟩
  rcases Nat.eq_zero_or_pos ps.length with h0 | h0
  · exact .inl (by rw [List.length_map]; exact h0)
  · right
    obtain ⟨T, TI, h1, h3⟩ := h.ex
    obtain ⟨g, k, e2⟩ := own_at hC h0
    rw [e] at e2
    injection e2 with e3 _ e4
    subst e3; subst e4
    rw [e] at hC
    refine ⟨g, 0, rfl, (hC.lt g rfl).2, fun i hi => ?_⟩
    rw [List.length_map] at hi
    refine ⟨(ps[i]).1, ?_, ?_⟩
    · rw [Nat.zero_add]
      exact own_cell hC (by unfold cellsC; rw [List.getElem?_map, List.getElem?_eq_getElem hi]; rfl)
    · have : (ps.map fun x => x.2.1).getD i [] = (ps[i]).2.1 := by simp [List.getD, hi]
      rw [this]
      exact (h3.rows _ (List.getElem_mem hi)).row
/-- What holds wants of the clauses. -/
theorem PlB.said (h : PlB w W v p dv lv cv iv ps) : RgtC 13 (ps.map fun x => x.2.1) ∧ SameC (ps.map fun x => x.2.1) (clsP p) := by
  obtain ⟨T, TI, _, h3⟩ := h.ex
  refine ⟨fun c hc => ?_, ?_⟩
  · obtain ⟨x, hx, rfl⟩ := List.mem_map.1 hc
    exact h3.rgt x hx
  · have := h3.tell.same
    rwa [List.map_map] at this

theorem PlB.prop (h : PlB w W v p dv lv cv iv ps) (hc : p.cl.length ≤ 1000) : Calls Try.prog 19 #[v] W fun e w' => ∃ x p', PrpR p x p' ∧ e = .returned (.int .i64 x) ∧ PlB w w' v p' dv lv cv iv ps := by
  have hwf := h.wf
  obtain ⟨T, TI, h1, h3⟩ := h.ex
  refine (pt_prop h1.pt hc).mono fun e w' ⟨x, p', hR, he, hP, hK⟩ => ⟨x, p', hR, he, T, TI, ?_, h3.keep (h1.kpCall hK) (fun _ h => h) hR.2.1⟩
  have eD : cellsD p' = cellsD p := by unfold cellsD; rw [hR.dec hwf]
  have eL : cellsL p' = cellsL p := by unfold cellsL; rw [hR.2.2.1]
  rw [eD, eL]
  exact h1.call hP hK

theorem PlB.dRow (h : PlB w W v p dv lv cv iv ps) : Row W dv (decP p) := by
  have := h.own.1
  unfold cellsD at this
  rw [List.length_map] at this
  exact own_row this
theorem PlB.rgtD (h : PlB w W v p dv lv cv iv ps) (hn : p.n = 12) : RgtD 13 (decP p) := fun l hl => by
  have := h.wf.rgt l (h.wf.dec_tr hl)
  omega

end
end Go.Proofs.Ytjlmooimdogmjaa

set_option linter.unusedVariables false
set_option linter.unusedSimpArgs false
namespace Go.Proofs.Ytjlmooimdogmjaa
open Go.RowKit

/-- The first loop keeps: the prop, the clauses that were told. -/
structure CfA (w W : World) (v : Value) (p q : Pr) (cv fv : Value) (xss : List (List Int)) (ps : List CI) : Prop where
  ex : ∃ T TI, PlS w T TI v p [(22, cv, cellsC ps)] W ∧ RowsT W TI fv xss ∧ CIs W TI q ps
/-- The second one: the decisions beside them. -/
structure CfB (w W : World) (v : Value) (p : Pr) (ds : List Int) (dv cv : Value) (ps : List CI) : Prop where
  ex : ∃ T TI, PlS w T TI v p [(3, dv, ds.map (Value.int .i64)), (22, cv, cellsC ps)] W ∧ CIs W TI p ps
section
variable {w W W1 : World} {v : Value} {p q : Pr} {cv dv fv : Value} {xss : List (List Int)} {ps : List CI} {ds : List Int}
theorem CfA.keep (h : CfA w W v p q cv fv xss ps) (hb : Below W.heap.size W W1) : CfA w W1 v p q cv fv xss ps := by
  obtain ⟨T, TI, h1, h2, h3⟩ := h.ex
  exact ⟨T, TI, h1.keep hb, h2.keep (h1.kpB hb), h3.keep (h1.kpB hb) (fun _ h => h) rfl⟩
theorem CfA.bel (h : CfA w W v p q cv fv xss ps) : Below w.heap.size w W := by
  obtain ⟨T, TI, h1, _⟩ := h.ex
  exact h1.pt.bel

theorem CfA.add (h : CfA w W v p q cv fv xss ps) (u : Value) (xs : List Int) (hu : Row W u xs) (hx : InW xs) (hn : xs.length ≤ 1000) (hc : p.cl.length ≤ 1000) : Calls Try.prog 18 #[v, u] W fun e w' => ∃ (y : Int) (b : Bool) (p' : Pr), AddR p xs b p' ∧ e = .returned (.tuple #[.int .i64 y, .bool b]) ∧ CfA w w' v p' q cv fv xss ps := by
  obtain ⟨T, TI, h1, h2, h3⟩ := h.ex
  refine (pt_add h1.pt u xs hu hx hn hc).mono fun e w' ⟨y, b, p', hA, hy, he, hP, hK⟩ => ⟨y, b, p', hA, he, T, TI, h1.call hP hK, h2.keep (h1.kpCall hK), h3.keep (h1.kpCall hK) (fun _ h => h) rfl⟩

theorem CfA.ownC (h : CfA w W v p q cv fv xss ps) : W.ownsRow w.heap.size 22 1 cv ps.length (cellsC ps) := by
  obtain ⟨T, TI, h1, _⟩ := h.ex
  have := h1.own (22, cv, cellsC ps) (by simp)
  simpa [cellsC] using this
theorem CfA.rowAt (h : CfA w W v p q cv fv xss ps) {k : Nat} (hk : k < xss.length) : ∃ a c b off u, fv = .slice a xss.length c ∧ a = some ⟨b, off, none⟩ ∧ b < W.heap.size ∧ W.cell? ⟨b, off + k, none⟩ = some u ∧ Row W u (xss.getD k []) ∧ IsS u := by
  obtain ⟨T, TI, _, h2, _⟩ := h.ex
  obtain ⟨a, c, e, _, _, h3⟩ := h2
  obtain ⟨b, off, e2, h4, _, h6⟩ := h3.resolve_left (by omega)
  obtain ⟨u, h7, h8⟩ := h6 k hk
  obtain ⟨a', c', e', _⟩ := id h8
  exact ⟨a, c, b, off, u, e, e2, h4, h7, h8.row, a', _, c', e'⟩
theorem CfA.push {cv' : Value} {k : Nat} {u : Value} {c : List Int} (h : CfA w W v p q cv fv xss ps) (hk : k < xss.length) (hu : ∀ a n cc b off, fv = .slice a n cc → a = some ⟨b, off, none⟩ → W.cell? ⟨b, off + k, none⟩ = some u) (hx : ∀ l ∈ xss.getD k [], 1 ≤ plc l ∧ plc l < 13) (hp : p.cl = (addP q c).cl) (hc : NrmP (xss.getD k []) c)
    (ha1 : App w.heap.size W W1 cv cv') (ho1 : W1.ownsRow w.heap.size 22 1 cv' (ps.length + 1) (cellsC ps ++ [u])) : CfA w W1 v p p cv' fv xss (ps ++ [(u, xss.getD k [], q.cl.length)]) := by
  obtain ⟨T, TI, h1, h2, h3⟩ := h.ex
  obtain ⟨a, cc, e, _, _, h5⟩ := id h2
  obtain ⟨b, off, e2, h6, _, h7⟩ := h5.resolve_left (by omega)
  obtain ⟨u', h8, h9⟩ := h7 k hk
  have := hu a _ cc b off e e2
  rw [this] at h8
  injection h8 with h8
  subst h8
  have s1 := h1.app (ys := cellsC ps ++ [u]) ha1 (by simpa [cellsC] using ho1)
  have k1 := h1.kpApp ha1
  refine ⟨_, TI, by simpa [cellsC] using s1, h2.keep k1, fun x hx' => ?_, ?_, fun x hx' => ?_⟩
  · rcases List.mem_append.1 hx' with hx' | hx'
    · exact (h3.rows x hx').keep k1
    · simp at hx'
      subst hx'
      exact h9.keep k1
  · rw [List.map_append]
    exact (h3.tell.add hc).cl hp
  · rcases List.mem_append.1 hx' with hx' | hx'
    · exact h3.rgt x hx'
    · simp at hx'
      subst hx'
      exact hx
theorem CfB.start (h : CfA w W v p p cv fv xss ps) : CfB w W v p [] (.slice none 0 0) cv ps := by
  obtain ⟨T, TI, h1, _, h3⟩ := h.ex
  exact ⟨T, TI, h1.none 3, h3⟩
theorem CfB.keep (h : CfB w W v p ds dv cv ps) (hb : Below W.heap.size W W1) : CfB w W1 v p ds dv cv ps := by
  obtain ⟨T, TI, h1, h3⟩ := h.ex
  exact ⟨T, TI, h1.keep hb, h3.keep (h1.kpB hb) (fun _ h => h) rfl⟩
theorem CfB.bel (h : CfB w W v p ds dv cv ps) : Below w.heap.size w W := by
  obtain ⟨T, TI, h1, _⟩ := h.ex
  exact h1.pt.bel
theorem CfB.wf (h : CfB w W v p ds dv cv ps) : PrW p := by
  obtain ⟨T, TI, h1, _⟩ := h.ex
  exact h1.pt.wf
theorem CfB.ownD (h : CfB w W v p ds dv cv ps) : W.ownsRow w.heap.size 3 1 dv ds.length (ds.map (Value.int .i64)) := by
  obtain ⟨T, TI, h1, _⟩ := h.ex
  have := h1.own (3, dv, ds.map (Value.int .i64)) (by simp)
  rwa [List.length_map] at this

theorem CfB.prop (h : CfB w W v p ds dv cv ps) (hc : p.cl.length ≤ 1000) : Calls Try.prog 19 #[v] W fun e w' => ∃ x p', PrpR p x p' ∧ e = .returned (.int .i64 x) ∧ CfB w w' v p' ds dv cv ps := by
  obtain ⟨T, TI, h1, h3⟩ := h.ex
  exact (pt_prop h1.pt hc).mono fun e w' ⟨x, p', hR, he, hP, hK⟩ => ⟨x, p', hR, he, T, TI, h1.call hP hK, h3.keep (h1.kpCall hK) (fun _ h => h) hR.2.1⟩

theorem CfB.dec (h : CfB w W v p ds dv cv ps) (l : Int) (h1 : -9223372036854775807 ≤ l) (h2 : l ≤ 9223372036854775807) : Calls Try.prog 28 #[v, .int .i64 l] W fun e w' => e = .returned (.bool (decOk p l)) ∧ CfB w w' v (decdP p l) ds dv cv ps := by
  obtain ⟨T, TI, k1, k2⟩ := h.ex
  exact (pt_dec k1.pt l h1 h2).mono fun e w' ⟨he, hP, hK⟩ => ⟨he, T, TI, k1.call hP hK, k2.keep (k1.kpCall hK) (fun _ h => h) (by unfold decdP; split <;> rfl)⟩

theorem CfB.app {dv' : Value} {x : Int} (h : CfB w W v p ds dv cv ps) (ha : App w.heap.size W W1 dv dv') (ho : W1.ownsRow w.heap.size 3 1 dv' (ds.length + 1) ((ds ++ [x]).map (Value.int .i64))) : CfB w W1 v p (ds ++ [x]) dv' cv ps := by
  obtain ⟨T, TI, h1, h3⟩ := h.ex
  have s1 := h1.app (ys := (ds ++ [x]).map (Value.int .i64)) ha (by rw [List.length_map, List.length_append]; exact ho)
  exact ⟨_, TI, s1, h3.keep (h1.kpApp ha) (fun _ h => h) rfl⟩
/-- What the laws go on with. -/
structure ConfR (w W : World) (T : Nat → Prop) (v : Value) (p : Pr) (cv dv : Value) (xs : List (List Int)) : Prop where
  pt : PT w T v p W
  rows : RowsT W T cv xs
  dec : RowT W T dv (decP p)
  n : p.n = 12
  rgt : RgtC 13 xs
  same : SameC xs (clsP p)
  len : p.cl.length ≤ 200
  xlen : xs.length ≤ 200
theorem CfB.out (h : CfB w W v p ds dv cv ps) (hd : ds = decP p) (hn : p.n = 12) (hc : p.cl.length ≤ 200) (hl : ps.length ≤ 200) : ∃ T xs, ConfR w W T v p cv dv xs := by
  obtain ⟨T, TI, h1, h3⟩ := h.ex
  refine ⟨T, ps.map fun x => x.2.1, h1.pt, ?_, ?_, hn, fun c hc => ?_, ?_, hc, by simpa using hl⟩
  · have hC := h1.own (22, cv, cellsC ps) (by simp)
    have hB := h1.blk (22, cv, cellsC ps) (by simp)
    have hlen : (cellsC ps).length = ps.length := by unfold cellsC; rw [List.length_map]
    rw [hlen] at hC
    obtain ⟨a, c, e, hc1, hc2⟩ := own_shape hC
    refine ⟨a, c, by rw [List.length_map]; exact e, by rw [List.length_map]; exact hc1, hc2, ?_⟩
    rcases Nat.eq_zero_or_pos ps.length with h0 | h0
    · exact .inl (by rw [List.length_map]; exact h0)
    · right
      obtain ⟨g, k, e2⟩ := own_at hC h0
      simp only at e
      rw [e] at e2
      injection e2 with e3 _ e4
      subst e3; subst e4
      simp only [e] at hC hB
      refine ⟨g, 0, rfl, (hC.lt g rfl).2, (hB g rfl).1, fun i hi => ?_⟩
      rw [List.length_map] at hi
      refine ⟨(ps[i]).1, ?_, ?_⟩
      · rw [Nat.zero_add]
        exact own_cell hC (by unfold cellsC; rw [List.getElem?_map, List.getElem?_eq_getElem hi]; rfl)
      · have : (ps.map fun x => x.2.1).getD i [] = (ps[i]).2.1 := by simp [List.getD, hi]
        rw [this]
        obtain ⟨a', c', e', k1, k2, k3⟩ := h3.rows _ (List.getElem_mem hi)
        exact ⟨a', c', e', k1, k2, k3.imp id fun ⟨b, off, e, h4, h5, h6⟩ => ⟨b, off, e, h4, h1.sub b h5, h6⟩⟩
  · have hD := h1.own (3, dv, ds.map (Value.int .i64)) (by simp)
    have hB := h1.blk (3, dv, ds.map (Value.int .i64)) (by simp)
    subst hd
    obtain ⟨a, c, e, k1, k2, k3⟩ := own_row hD
    simp only at e
    refine ⟨a, c, e, k1, k2, k3.imp id fun ⟨b, off, e2, h4, h5⟩ => ⟨b, off, e2, h4, ?_, h5⟩⟩
    subst e2
    rcases hD.2 with ⟨e0, _⟩ | ⟨g, cap, cur, e0, _⟩
    · simp only [e] at e0; cases e0
    · simp only [e] at e0 hB
      injection e0 with e0 _ _
      injection e0 with e0
      injection e0 with e0 _ _
      subst e0
      exact (hB b rfl).1
  · obtain ⟨x, hx, rfl⟩ := List.mem_map.1 hc
    exact h3.rgt x hx
  · have := h3.tell.same
    rwa [List.map_map] at this
end
end Go.Proofs.Ytjlmooimdogmjaa
