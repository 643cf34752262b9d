/- learn.From of a clause that is all false, at a level above 0: what it teaches. Conditions: a prop as PrS has it, of at most 10000 clauses. · learn.From: what it teaches of a clause that is all false; nothing where there is no clause. Conditions: a prop as PrS has it. -/
import Derived.Test.YtjlmooimdogmjaaLg38
import Derived.Test.YtjlmooimdogmjaaLg17
set_option linter.unusedVariables false
set_option linter.unusedSimpArgs false
set_option linter.unusedVariables false
set_option linter.unusedSimpArgs false
namespace Go.Proofs.Ytjlmooimdogmjaa
open Go.RowKit Go.Maps

/-- The study as it begins. -/
theorem StA.begin {w2 : World} {v : Value} {top : Int} : StA w2.heap.size (fun i => i < w2.heap.size) ((w2.alloc (.map #[] 0)).alloc (.cells #[v, .int .i64 top, .int .i64 0, .slice none 0 0, .map (some w2.heap.size), .slice none 0 0] 60)) (w2.heap.size + 1) w2.heap.size v top 0 [] [] [] (.slice none 0 0) (.slice none 0 0) := by
  have hs1 : (w2.alloc (.map #[] 0)).heap.size = w2.heap.size + 1 := Array.size_push _
  have hs2 : ((w2.alloc (.map #[] 0)).alloc (.cells #[v, .int .i64 top, .int .i64 0, .slice none 0 0, .map (some w2.heap.size), .slice none 0 0] 60)).heap.size = w2.heap.size + 2 := by
    show ((w2.alloc (.map #[] 0)).heap.push _).size = _
    rw [Array.size_push, hs1]
  have hx : ((w2.alloc (.map #[] 0)).alloc (.cells #[v, .int .i64 top, .int .i64 0, .slice none 0 0, .map (some w2.heap.size), .slice none 0 0] 60)).heap[w2.heap.size + 1]? = some (.cells #[v, .int .i64 top, .int .i64 0, .slice none 0 0, .map (some w2.heap.size), .slice none 0 0] 60) := by
    have := heap_alloc_new (w2.alloc (.map #[] 0)) (.cells #[v, .int .i64 top, .int .i64 0, .slice none 0 0, .map (some w2.heap.size), .slice none 0 0] 60)
    rw [hs1] at this
    exact this
  refine ⟨?_, ?_, ?_, ?_, ?_, ?_, fun k => ?_, by omega, by rw [hs2]; omega, ?_, Nat.le_refl _, World.ownsRow_nil _ _ _ _, World.ownsRow_nil _ _ _ _, by omega, (fun k e => by cases e), (fun k e => by cases e), fun i hi => ⟨by rw [hs2]; omega, by omega, by omega, (by intro e; cases e), (by intro e; cases e)⟩⟩
  · unfold World.cell?; rw [hx]; rfl
  · unfold World.cell?; rw [hx]; rfl
  · unfold World.cell?; rw [hx]; rfl
  · unfold World.cell?; rw [hx]; rfl
  · unfold World.cell?; rw [hx]; rfl
  · unfold World.cell?; rw [hx]; rfl
  · unfold World.frozen?; rw [hx]; simp
  · rw [setI_nil]
    have h := (World.ownsMap_made (H := Unit) w2 Try.prog 3 unitElem).alloc (.cells #[v, .int .i64 top, .int .i64 0, .slice none 0 0, .map (some w2.heap.size), .slice none 0 0] 60)
    exact h

/-- A row of ints of the call's own, as append's second argument. -/
theorem below_src {w : World} {B : Nat} {v : Value} {n : Nat} {xs : List Int} (h : w.ownsRow B 3 1 v n (xs.map (Value.int .i64))) : ∃ ao c, v = .slice ao n c ∧ (n = 0 ∨ ∃ ad, ao = some ad ∧ ∀ j, j < n → w.cell? (ad.add j) = some (.int .i64 (xs.getD j 0))) ∧ (ao = none → c = 0) ∧ n ≤ c ∧ c ≤ maxLen ∧ xs.length = n := by
  have hl : xs.length = n := own_len h
  rcases h.2 with ⟨e0, e1⟩ | ⟨g, cap, cur, e0, _, _, h1, h2, _⟩
  · exact ⟨none, 0, by rw [e0, e1], .inl e1, fun _ => rfl, by omega, by unfold maxLen; omega, hl⟩
  · subst e0
    refine ⟨_, cap, rfl, .inr ⟨_, rfl, fun j hj => ?_⟩, (fun e => by cases e), h1, h2, hl⟩
    exact h.cells (g := g) rfl j _ (by rw [List.getElem?_map]; simp [List.getD, show j < xs.length by omega])
/-- A row but for its first. -/
theorem row_tail {w : World} {b cap n : Nat} {u : Int} {r : List Int} (h : Row w (.slice (some ⟨b, 0, none⟩) n cap) (u :: r)) : Row w (.slice (some ⟨b, 1, none⟩) (n - 1) (cap - 1)) r := by
  obtain ⟨a, c, e, h1, h2, h3⟩ := h
  injection e with e1 e2 e3
  subst e1; subst e3
  rw [List.length_cons] at e2 h1
  refine ⟨_, cap - 1, by rw [e2]; rfl, by omega, by omega, ?_⟩
  rcases h3 with h3 | ⟨b', off, e, h4, h5⟩
  · simp at h3
  · injection e with e
    injection e with e1 e2
    subst e1; subst e2
    refine .inr ⟨b, 1, rfl, h4, fun j hj => ?_⟩
    have := h5 (j + 1) (by simp; omega)
    rw [Nat.zero_add] at this
    rw [Nat.add_comm 1 j, this]
    rfl

/-- What stands at the end: the lesson's row is new, and all else of before is as it was. -/
theorem res_end {w w6 w7 w8 : World} {v a b c d : Value} {n : Nat} {xs : List Int} (ho : w7.ownsRow w6.heap.size 3 1 v n (xs.map (Value.int .i64))) (hb8 : Below w7.heap.size w7 w8) (h6 : w.heap.size < w6.heap.size) (hbw : Below w.heap.size w w8) :
    RowT ((((w8.setCell ⟨w.heap.size, 0, none⟩ a).setCell ⟨w.heap.size, 1, none⟩ b).setCell ⟨w.heap.size, 2, none⟩ c).setCell ⟨w.heap.size, 3, none⟩ d) (NewB w ((((w8.setCell ⟨w.heap.size, 0, none⟩ a).setCell ⟨w.heap.size, 1, none⟩ b).setCell ⟨w.heap.size, 2, none⟩ c).setCell ⟨w.heap.size, 3, none⟩ d)) v xs ∧ Below w.heap.size w ((((w8.setCell ⟨w.heap.size, 0, none⟩ a).setCell ⟨w.heap.size, 1, none⟩ b).setCell ⟨w.heap.size, 2, none⟩ c).setCell ⟨w.heap.size, 3, none⟩ d) := by
  have hc : Chg [w.heap.size] w8 ((((w8.setCell ⟨w.heap.size, 0, none⟩ a).setCell ⟨w.heap.size, 1, none⟩ b).setCell ⟨w.heap.size, 2, none⟩ c).setCell ⟨w.heap.size, 3, none⟩ d) := ((((Chg.refl [w.heap.size] w8).setCell (.inl (by simp)) _).setCell (.inl (by simp)) _).setCell (.inl (by simp)) _).setCell (.inl (by simp)) _
  have h8 := own_chg (own_keep ho hb8) hc fun k hk hm => by
    simp at hm
    have := (ho.lt k hk).1
    omega
  exact ⟨own_rowT h8 fun i h1 h2 => ⟨by omega, h2⟩, (((hbw.setCell (Nat.le_refl _) _).setCell (Nat.le_refl _) _).setCell (Nat.le_refl _) _).setCell (Nat.le_refl _) _⟩

set_option maxRecDepth 8000 in
set_option maxHeartbeats 8000000 in
theorem from_yes {v : Value} {S : List Nat} {p : Pr} (w : World) (hs : PrS w v S p) (hcl : p.cl.length ≤ 10000) (k : Nat) (c : List Int) (hk : p.cl.getD k none = some c) (hf : AllF p c) (h0 : c ≠ []) (hst : p.st ≠ []) : Calls Try.prog 10 #[v, .int .i64 (k : Int)] w fun e w' => ∃ u r cv sv, e = .returned (.tuple #[.agg #[cv, .int .i64 (topL p r), .int .i64 ((ddL ((u :: r).map fun l => levP p (plc l : Int))).length : Int), sv], .bool true]) ∧ RowT w' (NewB w w') cv (u :: r) ∧ (∃ a n c, sv = .slice a n c) ∧ LesR p c u r ∧ Below w.heap.size w w' := by
  have hw := hs.wf
  have HW := Lib.hid hw
  have HCLN := Lib.hid hcl
  have HP : Hid (∀ V, Below w.heap.size w V → PrS V v S p) := fun V hV => hs.below hV
  have hkl : k < p.cl.length := by
    rcases Nat.lt_or_ge k p.cl.length with h | h
    · exact h
    · simp [List.getD, List.getElem?_eq_none h] at hk
  have HK := Lib.hid hk
  have hcn : c.length ≤ 10000 := by
    have h1 := hw.cls c (mem_clsP.2 ⟨k, hk⟩)
    have hn := hw.n
    have hsub : c ⊆ (List.range 8001).map (fun (i : Nat) => (i : Int) - 4000) := fun x hx => by
      have h2 := h1.2 x hx
      have h3 := plc_absI x
      have h4 : absI x = x ∨ absI x = -x := by unfold absI; split <;> simp
      exact List.mem_map.2 ⟨(x + 4000).toNat, List.mem_range.2 (by omega), by omega⟩
    have := h1.1.length_le_of_subset hsub
    simp at this
    omega
  have HCL : Hid (∀ V, Below w.heap.size w V → Calls Try.prog 31 #[v, .int .i64 (k : Int)] V fun e w' => ∃ u d, e = .returned u ∧ RowT w' (NewB V w') u d ∧ d.Perm c ∧ Below V.heap.size V w') := fun V hV => by
    have := pclsT_any V (HP.out V hV) (k : Int) (by omega) (by omega)
    rwa [if_neg (by omega), Int.toNat_natCast, hk, Option.getD_some] at this
  have HLL : Hid (∀ V, Below w.heap.size w V → Calls Try.prog 15 #[v] V fun e w' => e = .returned (.int .i64 (p.st.length : Int)) ∧ V = w') := fun V hV => plvl_any V (HP.out V hV)
  have HFD : Hid (∀ d : List Int, d.Perm c → AllF p d ∧ d ≠ [] ∧ d.length ≤ 10000 ∧ ∀ l ∈ d, -4000 ≤ l ∧ l ≤ 4000) := fun d hd => by
    have haf : AllF p d := fun l hl => hf l (hd.mem_iff.1 hl)
    exact ⟨haf, fun e => by subst e; exact h0 (List.nil_perm.1 hd), by rw [hd.length_eq]; exact hcn, fun l hl => by have := (haf.bd hw hl).1; omega⟩
  have hA : Below w.heap.size w (w.alloc (.cells #[.slice none 0 0, .int .i64 0, .int .i64 0, .slice none 0 0] 29)) := (Below.refl _ _).alloc (Nat.le_refl _) _
  have HA := Lib.hid hA
  have HS := Lib.hid hs
  have hl0 : ((p.st.length : Int) == 0) = false := by
    have : 0 < p.st.length := List.length_pos_iff.2 hst
    rw [beq_eq_false_iff_ne]; omega
  clear hs hw hcl hk hf h0 hst hA hkl
  obtain ⟨q, rfl⟩ := HS.out.ptr
  go_enter Try.func10, Try.ntmps10
  go_wp2_with fail
  refine (HCL.out _ HA.out).mono ?_
  rintro e w2 ⟨u, d, rfl, hu, hd, hb2⟩
  have HD := Lib.hid hd
  have HB2 : Hid (Below w.heap.size w w2) := HA.out.trans (hb2.mono HA.out.size)
  have HR2 := Lib.hid hb2
  have HLV := Lib.hid (HLL.out _ HB2.out)
  obtain ⟨hdf, hdn, hdl, hd4⟩ := HFD.out d hd
  have HAF := Lib.hid (allF_any w2 (HP.out _ HB2.out) u d hu.row hdf)
  have HGR := Lib.hid (great_any w2 (HP.out _ HB2.out) u d hu.row hdf)
  have HU : Hid (RowT w2 (fun i => i < w2.heap.size) u d) := by
    obtain ⟨a, c, e, k1, k2, k3⟩ := hu
    exact ⟨a, c, e, k1, k2, k3.imp id fun ⟨b, off, e, h4, h5, h6⟩ => ⟨b, off, e, h4, h4, h6⟩⟩
  have HDF := Lib.hid hdf
  have HDN := Lib.hid hdn
  have HD4 := Lib.hid hd4
  have HDL := Lib.hid hdl
  have hdp : 0 < d.length := List.length_pos_iff.2 hdn
  have hd0 : ((d.length : Int) == 0) = false := by rw [beq_eq_false_iff_ne]; omega
  obtain ⟨ua, uc, rfl, _⟩ := hu
  have htb : 0 ≤ topL p d ∧ topL p d ≤ 5000 := ⟨topL_zero d, topL_le d 5000 (by omega) fun l hl => by
    have := (hdf.bd HW.out hl).2.2.2.2
    rw [plc_absI]; omega⟩
  have hmm := @run_makeMap Try.prog
  generalize hM : d.length = M at *
  have HM := Lib.hid hM
  have HTL := Lib.hid (rfl : topL p d = topL p d)
  obtain ⟨top, htop⟩ : ∃ top, top = topL p d := ⟨_, rfl⟩
  rw [← htop] at HGR htb
  have HTOP : Hid (top = topL p d) := htop
  clear hM hd hb2 hdf hdn hd4 HCL HLL htop HTL
  go_wp2_with fail
  refine HLV.out.mono ?_
  rintro e w3 ⟨rfl, rfl⟩
  go_wp2_with fail
  refine HAF.out.mono ?_
  rintro e w3 ⟨rfl, rfl⟩
  go_wp2_with fail
  refine HGR.out.mono ?_
  rintro e w3 ⟨rfl, rfl⟩
  go_upto_region 5 with fail
  have hbW : Below w2.heap.size w2 ((w2.alloc (.map #[] 0)).alloc (.cells #[.pointer (some ⟨q, 0, none⟩), .int .i64 top, .int .i64 0, .slice none 0 0, .map (some w2.heap.size), .slice none 0 0] 60)) := ((Below.refl _ _).alloc (Nat.le_refl _) _).alloc (by rw [show (w2.alloc (.map #[] 0)).heap.size = w2.heap.size + 1 from Array.size_push _]; omega) _
  have hS2 := HP.out _ HB2.out
  have hSta := StA.begin (w2 := w2) (v := .pointer (some ⟨q, 0, none⟩)) (top := top)
  have HMT := Lib.hid (meet_any (s := ⟨0, [], []⟩) hS2 hbW hSta (.slice ua M uc) d (HU.out.keep (Kp.below hbW fun i hi => hi)) HD4.out (by show 0 + d.length ≤ 1000000; have := HM.out; omega) (by show 0 + d.length ≤ 1000000; have := HM.out; omega) (by show 0 + d.length ≤ 1000000; have := HM.out; omega))
  have hStI := StI.start HW.out HDF.out HDN.out
  rw [← HTOP.out] at hStI
  have HRS : Hid (∀ (W : World) (bv sv : Value), StA w2.heap.size (fun i => i < w2.heap.size) W (w2.heap.size + 1) w2.heap.size (.pointer (some ⟨q, 0, none⟩)) top (meetF p top ⟨0, [], []⟩ d).many (meetF p top ⟨0, [], []⟩ d).below (meetF p top ⟨0, [], []⟩ d).seen (meetF p top ⟨0, [], []⟩ d).seen bv sv → Below w2.heap.size w2 W → Calls Try.prog 35 #[.pointer (some ⟨w2.heap.size + 1, 0, none⟩)] W fun e w' => ∃ u many r ss, e = .returned (.int .i64 u) ∧ LesR p c u r ∧ (∃ bv' sv', StA w2.heap.size (fun i => i < w2.heap.size) w' (w2.heap.size + 1) w2.heap.size (.pointer (some ⟨q, 0, none⟩)) top many r ss ss bv' sv') ∧ Below w2.heap.size w2 w') := fun W bv sv hA hb => by
    refine (resolve_any hS2 HCLN.out hb hA hStI).mono ?_
    rintro e w' ⟨i, s', hi, rfl, hI, ho, hm, hA', _, hb'⟩
    rw [HTOP.out] at hI ho
    exact ⟨_, s'.many, s'.below, s'.seen, rfl, (StI.end HW.out hI hi ho hm HDF.out HK.out HD.out).perm HD.out, hA', hb.trans hb'⟩
  clear hS2 hSta hStI
  generalize (w2.alloc (.map #[] 0)).alloc (.cells #[.pointer (some ⟨q, 0, none⟩), .int .i64 top, .int .i64 0, .slice none 0 0, .map (some w2.heap.size), .slice none 0 0] 60) = w4 at *
  have HBW := Lib.hid hbW
  clear hbW
  go_wp2_with fail
  refine HMT.out.mono ?_
  rintro e w5 ⟨rfl, ⟨bv, sv, hA5⟩, _, hb5⟩
  have HB5 : Hid (Below w2.heap.size w2 w5) := HBW.out.trans hb5
  have HR5 := Lib.hid (HRS.out w5 bv sv hA5 HB5.out)
  have HA5 := Lib.hid hA5
  clear hb5 hA5 HMT HRS
  go_wp2_with fail
  refine HR5.out.mono ?_
  rintro e w6 ⟨u, many, r, ss, rfl, hL, ⟨bv6, sv6, hA6⟩, hb6⟩
  have HL6 := Lib.hid hL
  have HB6 := Lib.hid hb6
  obtain ⟨ba, bc, rfl, hsrc, hnone, hbc1, hbc2, hrl⟩ := below_src hA6.rb
  obtain ⟨sa, sc, rfl, _⟩ := own_shape hA6.rs
  have HA6 := Lib.hid hA6
  unfold maxLen at hbc2
  clear hL hb6 hA6 HR5 HA5 HB5
  have hrn : r.length ≤ 5000 := by
    have hsub : r.map plc ⊆ List.range 5000 := fun v hv => by
      obtain ⟨l, hl, e⟩ := List.mem_map.1 hv
      have h1 := HW.out.rgt _ (HL6.out.rst l hl).1
      rw [plc_negate] at h1
      have := HW.out.n
      exact List.mem_range.2 (by omega)
    have := HL6.out.nd.length_le_of_subset hsub
    simpa using this
  have hAl : Below w6.heap.size w6 (w6.alloc (.cells #[.int .i64 u] 3)) := (Below.refl _ _).alloc (Nat.le_refl _) _
  have hA7 := HA6.out.keep hAl
  have x3 := HA6.out.c3
  have x3a := hA7.c3
  have hlit := own_lit1 w6 w6.heap.size u (Nat.le_refl _)
  have hsz6 : (w6.alloc (.cells #[.int .i64 u] 3)).heap.size = w6.heap.size + 1 := Array.size_push _
  have hsrcA : r.length = 0 ∨ ∃ ad, ba = some ad ∧ ∀ j, j < r.length → (w6.alloc (.cells #[.int .i64 u] 3)).cell? (ad.add j) = some (.int .i64 (r.getD j 0)) := by
    obtain ⟨a', c', e, h1, _⟩ := below_src hA7.rb
    injection e with e1 _ _
    subst e1
    exact h1
  have HR := Lib.hid (rfl : r = r)
  have HAF6 := Lib.hid HL6.out.allF
  clear hA7 hsrc
  go_upto_region 8 with (at_builtin; refine wpList_app rfl _ _ rfl (w6.alloc (.cells #[.int .i64 u] 3)) w6.heap.size _ 1 [u] ba r.length bc r hlit (by rw [hsz6]; omega) (by omega) rfl hsrcA hnone rfl rfl ?_; intro v7 w7 ho7 hb7; obtain ⟨g7, k7, rfl⟩ := own_at ho7 (by omega))
  have HB7 : Hid (Below w6.heap.size w6 w7) := hAl.trans hb7
  have hbA7 : Below (w.alloc (.cells #[.slice none 0 0, .int .i64 0, .int .i64 0, .slice none 0 0] 29)).heap.size (w.alloc (.cells #[.slice none 0 0, .int .i64 0, .int .i64 0, .slice none 0 0] 29)) w7 := HR2.out.trans ((HB6.out.trans (HB7.out.mono HB6.out.size)).mono HR2.out.size)
  have HBA7 := Lib.hid hbA7
  have HB27 : Hid (Below w.heap.size w w7) := HA.out.trans (hbA7.mono HA.out.size)
  have hlen7 : ([u] ++ r) = u :: r := rfl
  rw [hlen7] at ho7
  have hn7 : 1 + r.length = (u :: r).length := by rw [List.length_cons]; omega
  have HOW := Lib.hid ho7
  have hrow7 := own_row ho7
  have HRT : Hid (RowT w7 (NewB w w7) (.slice (some ⟨g7, 0, none⟩) (1 + r.length) k7) (u :: r)) := own_rowT ho7 fun i h1 h2 => ⟨Nat.le_trans (HB2.out.trans (HB6.out.mono HB2.out.size)).size h1, h2⟩
  have HRTL := Lib.hid (row_tail hrow7)
  have x5 := (HA6.out.keep HB7.out).c5
  have x5d : w7.drew.cell? ⟨w2.heap.size + 1, 5, none⟩ = some (.slice sa ss.length sc) := x5
  have HX5 : Hid (∀ V, Below w7.heap.size w7 V → V.cell? ⟨w2.heap.size + 1, 5, none⟩ = some (.slice sa ss.length sc)) := fun V hV => (HA6.out.keep (HB7.out.trans (hV.mono HB7.out.size))).c5
  have HLE : Hid (∀ V, Below w7.heap.size w7 V → Calls Try.prog 36 #[.pointer (some ⟨q, 0, none⟩), .slice (some ⟨g7, 0, none⟩) (1 + r.length) k7] V fun e w' => e = .returned (.int .i64 ((ddL (lvsL p (u :: r))).length : Int)) ∧ Below V.heap.size V w') := fun V hV => levels_any V (HP.out V (HB27.out.trans (hV.mono HB27.out.size))) _ (u :: r) (HRT.out.keep (Kp.below hV fun i hi => hi.2)) (fun i hi => Nat.lt_of_lt_of_le hi.2 hV.size) HAF6.out (by rw [List.length_cons]; omega)
  have hk7 : 1 + r.length ≤ k7 ∧ k7 ≤ 9223372036854775807 := by
    obtain ⟨_, _, e7, hk1, hk2⟩ := own_shape ho7
    injection e7 with _ _ e7
    subst e7
    unfold maxLen at hk2
    exact ⟨hk1, by omega⟩
  obtain ⟨hk71, hk72⟩ := hk7
  obtain ⟨n7, hn71⟩ : ∃ n7, n7 = 1 + r.length := ⟨_, rfl⟩
  rw [← hn71] at hk71 HRT HLE HOW HRTL
  have hn73 : 1 ≤ n7 := by omega
  rw [← hn71]
  have HN7 := Lib.hid hn71
  clear hAl hb7 hbA7 hlen7 ho7 hrow7 hlit hsz6 hsrcA x3 x3a hnone hn71 hn7 hrn hbc1 hbc2
  have HEND : Hid (∀ w8, Below w7.heap.size w7 w8 → ∀ a b c d, RowT ((((w8.setCell ⟨w.heap.size, 0, none⟩ a).setCell ⟨w.heap.size, 1, none⟩ b).setCell ⟨w.heap.size, 2, none⟩ c).setCell ⟨w.heap.size, 3, none⟩ d) (NewB w ((((w8.setCell ⟨w.heap.size, 0, none⟩ a).setCell ⟨w.heap.size, 1, none⟩ b).setCell ⟨w.heap.size, 2, none⟩ c).setCell ⟨w.heap.size, 3, none⟩ d)) (.slice (some ⟨g7, 0, none⟩) n7 k7) (u :: r) ∧ Below w.heap.size w ((((w8.setCell ⟨w.heap.size, 0, none⟩ a).setCell ⟨w.heap.size, 1, none⟩ b).setCell ⟨w.heap.size, 2, none⟩ c).setCell ⟨w.heap.size, 3, none⟩ d)) := fun w8 h8 a b c d => res_end HOW.out h8 (by
    have h1 := HR2.out.size
    rw [show (w.alloc (.cells #[.slice none 0 0, .int .i64 0, .int .i64 0, .slice none 0 0] 29)).heap.size = w.heap.size + 1 from Array.size_push _] at h1
    have h2 := HB6.out.size
    omega) (HB27.out.trans (h8.mono HB27.out.size))
  have HGT := fun (V : World) (hV : Below w7.heap.size w7 V) (u' : Value) (hu : Row V u' r) => great_any V (HP.out V (HB27.out.trans (hV.mono HB27.out.size))) u' r hu fun l hl => HAF6.out l (List.mem_cons_of_mem u hl)
  have HGT := Lib.hid HGT
  rcases Decidable.em (k7 = 1) with hk1 | hk1
  · have hn1 : n7 = 1 := by omega
    subst hk1
    subst hn1
    have hr0 : r = [] := List.eq_nil_of_length_eq_zero (by have := HN7.out; omega)
    have HGR : Hid (∀ V, Below w7.heap.size w7 V → Calls Try.prog 33 #[.pointer (some ⟨q, 0, none⟩), .slice (some ⟨g7, 0, none⟩) 0 0] V fun e w' => e = .returned (.int .i64 (topL p r)) ∧ V = w') := fun V hV => HGT.out V hV _ ⟨_, 0, by rw [hr0]; rfl, by rw [hr0]; exact Nat.le_refl _, by unfold maxLen; omega, .inl (by rw [hr0]; rfl)⟩
    clear hr0
    go_region_with (first
      | (go_at_call 33; refine (HGR.out _ (by first | exact Below.refl _ _ | exact (Below.refl _ _).drew)).mono ?_; rintro e w' ⟨rfl, rfl⟩)
      | (go_at_call 36; refine (HLE.out _ (by first | exact Below.refl _ _ | exact (Below.refl _ _).drew)).mono ?_; rintro e w8 ⟨rfl, hb8⟩; have HB8 : Hid (Below w7.heap.size w7 w8) := (by first | exact hb8 | exact ((Below.refl _ w7).drew.trans hb8)); have x58 := HX5.out _ HB8.out; obtain ⟨r0, r1, r2, r3, rf⟩ := resL (HBA7.out.trans (HB8.out.mono HBA7.out.size)); have f0 := rf 0; have f1 := rf 1; have f2 := rf 2; have f3 := rf 3; clear hb8 rf))
    all_goals
      go_wp2_with fail
      obtain ⟨E1, E2⟩ := HEND.out _ HB8.out (.slice (some ⟨g7, 0, none⟩) 1 1) (.int .i64 (topL p r)) (.int .i64 ((ddL (lvsL p (u :: r))).length : Int)) (.slice sa ss.length sc)
      exact bodyPost_ret (v := .tuple #[.agg #[.slice (some ⟨g7, 0, none⟩) 1 1, .int .i64 (topL p r), .int .i64 ((ddL (lvsL p (u :: r))).length : Int), .slice sa ss.length sc], .bool true]) (by simp [results, Try.results10, go_sem, r0, r1, r2, r3]) rfl ⟨u, r, _, _, rfl, E1, ⟨_, _, _, rfl⟩, HL6.out, E2⟩
  · have HGR : Hid (∀ V, Below w7.heap.size w7 V → Calls Try.prog 33 #[.pointer (some ⟨q, 0, none⟩), .slice (some ⟨g7, 1, none⟩) (n7 - 1) (k7 - 1)] V fun e w' => e = .returned (.int .i64 (topL p r)) ∧ V = w') := fun V hV => HGT.out V hV _ (HRTL.out.keep hV)
    go_region_with (first
      | (go_at_call 33; refine (HGR.out _ (by first | exact Below.refl _ _ | exact (Below.refl _ _).drew)).mono ?_; rintro e w' ⟨rfl, rfl⟩)
      | (go_at_call 36; refine (HLE.out _ (by first | exact Below.refl _ _ | exact (Below.refl _ _).drew)).mono ?_; rintro e w8 ⟨rfl, hb8⟩; have HB8 : Hid (Below w7.heap.size w7 w8) := (by first | exact hb8 | exact ((Below.refl _ w7).drew.trans hb8)); have x58 := HX5.out _ HB8.out; obtain ⟨r0, r1, r2, r3, rf⟩ := resL (HBA7.out.trans (HB8.out.mono HBA7.out.size)); have f0 := rf 0; have f1 := rf 1; have f2 := rf 2; have f3 := rf 3; clear hb8 rf))
    all_goals
      go_wp2_with fail
      obtain ⟨E1, E2⟩ := HEND.out _ HB8.out (.slice (some ⟨g7, 0, none⟩) n7 k7) (.int .i64 (topL p r)) (.int .i64 ((ddL (lvsL p (u :: r))).length : Int)) (.slice sa ss.length sc)
      exact bodyPost_ret (v := .tuple #[.agg #[.slice (some ⟨g7, 0, none⟩) n7 k7, .int .i64 (topL p r), .int .i64 ((ddL (lvsL p (u :: r))).length : Int), .slice sa ss.length sc], .bool true]) (by simp [results, Try.results10, go_sem, r0, r1, r2, r3]) rfl ⟨u, r, _, _, rfl, E1, ⟨_, _, _, rfl⟩, HL6.out, E2⟩
end Go.Proofs.Ytjlmooimdogmjaa

namespace Go.Proofs.Ytjlmooimdogmjaa
open Go.RowKit

theorem from_any {v : Value} {S : List Nat} {p : Pr} (w : World) (hs : PrS w v S p) (hcl : p.cl.length ≤ 10000) (k : Nat) (c : List Int) (hk : p.cl.getD k none = some c) (hf : AllF p c) (h0 : c ≠ []) (hst : p.st ≠ []) : Calls Try.prog 10 #[v, .int .i64 (k : Int)] w fun e w' => ∃ u r cv sv, e = .returned (.tuple #[.agg #[cv, .int .i64 (topL p r), .int .i64 ((ddL ((u :: r).map fun l => levP p (plc l : Int))).length : Int), sv], .bool true]) ∧ RowT w' (NewB w w') cv (u :: r) ∧ (∃ a n c, sv = .slice a n c) ∧ LesR p c u r ∧ Below w.heap.size w w' := from_yes w hs hcl k c hk hf h0 hst

theorem from_no {v : Value} {S : List Nat} {p : Pr} (w : World) (hs : PrS w v S p) (k : Nat) (h1 : (k : Int) ≤ 9223372036854775807) (hk : p.cl.getD k none = none) : Calls Try.prog 10 #[v, .int .i64 (k : Int)] w fun e w' => e = .returned (.tuple #[.agg #[.slice none 0 0, .int .i64 0, .int .i64 0, .slice none 0 0], .bool false]) ∧ Below w.heap.size w w' := from_none w hs k h1 hk

end Go.Proofs.Ytjlmooimdogmjaa
