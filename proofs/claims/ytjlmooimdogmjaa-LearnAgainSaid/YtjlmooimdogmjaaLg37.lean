/- The contract of learn's study.resolve: down the trail until one literal alone is open. Conditions: the study in memory as StA has it, and as StI says; a prop as PrS has it, of at most ten thousand clauses. · The contract of learn.levels: how many levels the clause's literals have. Conditions: a prop as PrS has it; the clause is all false, of at most a hundred thousand literals. -/
import Derived.Test.YtjlmooimdogmjaaLg36
import Derived.Deep.LoopGhost
import Derived.Deep.RegionHeld3
import Derived.Test.YtjlmooimdogmjaaLg17
set_option linter.unusedVariables false
set_option linter.unusedSimpArgs false
set_option linter.unusedVariables false
set_option linter.unusedSimpArgs false
namespace Go.Proofs.Ytjlmooimdogmjaa
open Go.RowKit Go.Maps

instance opnDec (p : Pr) (top : Int) (s : Sd) (i : Nat) : Decidable (opn p top s i) := by unfold opn; infer_instance
section
variable {p : Pr} {c0 : List Int} {top : Int} {n : Nat} {s : Sd}
theorem StI.lens (h : MtI p top n s) (hw : PrW p) : s.seen.length ≤ 4001 ∧ s.below.length ≤ 4001 ∧ s.many ≤ 4001 := by
  have h1 : s.seen.length ≤ 4001 := by
    have hsub : s.seen ⊆ (List.range 4001).map (fun (i : Nat) => (i : Int)) := fun v hv => by
      obtain ⟨i, hi, e⟩ := h.kn v hv
      have := hw.rgt _ (getD_mem hi)
      have hn := hw.n
      refine List.mem_map.2 ⟨plc (p.tr.getD i 0), List.mem_range.2 (by omega), ?_⟩
      rw [e]; rfl
    have := h.nd.length_le_of_subset hsub
    simpa using this
  have h2 : s.below.length ≤ 4001 := by
    have hsub : s.below.map plc ⊆ List.range 4001 := fun v hv => by
      obtain ⟨l, hl, e⟩ := List.mem_map.1 hv
      have := hw.rgt _ (h.bel l hl).1
      rw [plc_negate] at this
      have hn := hw.n
      exact List.mem_range.2 (by omega)
    have := h.bnd.length_le_of_subset hsub
    simpa using this
  exact ⟨h1, h2, by rw [h.many]; exact Nat.le_trans List.countP_le_length h1⟩
theorem PrW.tr_bd (hw : PrW p) {i : Nat} (hi : i < p.tr.length) : (-4000 ≤ p.tr.getD i 0 ∧ p.tr.getD i 0 ≤ 4000) ∧ absI (p.tr.getD i 0) = vrI p i ∧ 1 ≤ vrI p i ∧ vrI p i ≤ 4000 := by
  have h1 := hw.rgt _ (getD_mem hi)
  have h2 := plc_absI (p.tr.getD i 0)
  have hn := hw.n
  have h3 : absI (p.tr.getD i 0) = p.tr.getD i 0 ∨ absI (p.tr.getD i 0) = -(p.tr.getD i 0) := by unfold absI; split <;> simp
  unfold vrI
  omega
end

set_option maxRecDepth 8000 in
set_option maxHeartbeats 8000000 in
theorem resolve_any {w W : World} {T : Nat → Prop} {g mb : Nat} {v : Value} {top : Int} {s : Sd} {bv sv : Value} {S : List Nat} {p : Pr} {c0 : List Int} (hs : PrS w v S p) (hcl : p.cl.length ≤ 10000) (hb : Below w.heap.size w W) (hA : StA w.heap.size T W g mb v top s.many s.below s.seen s.seen bv sv) (hI : StI p c0 top p.tr.length s) :
    Calls Try.prog 35 #[.pointer (some ⟨g, 0, none⟩)] W fun e w' => ∃ i s', i < p.tr.length ∧ e = .returned (.int .i64 (-(p.tr.getD i 0))) ∧ StI p c0 top (i + 1) s' ∧ opn p top s' i ∧ ¬ 1 < s'.many ∧ (∃ bv' sv', StA w.heap.size T w' g mb v top s'.many s'.below s'.seen s'.seen bv' sv') ∧ Kp T W w' ∧ Below w.heap.size W w' := by
  have hw := hs.wf
  have HW := Lib.hid hw
  have HP : Hid (∀ V, Below w.heap.size W V → PrS V v S p) := fun V hV => hs.below (hb.trans hV)
  have HS := Lib.hid hs
  have HBW := Lib.hid hb
  have HTR := Lib.hid (ptrlT_any W (HP.out W (Below.refl _ _)))
  have c00 := hA.c0
  have HA := Lib.hid hA
  have HI := Lib.hid hI
  have HCL := Lib.hid hcl
  have HBD : Hid (∀ i, i < p.tr.length → (-4000 ≤ p.tr.getD i 0 ∧ p.tr.getD i 0 ≤ 4000) ∧ absI (p.tr.getD i 0) = vrI p i ∧ 1 ≤ vrI p i ∧ vrI p i ≤ 4000) := fun i hi => hw.tr_bd hi
  have HTL : Hid (p.tr.length ≤ 4001) := Nat.le_trans hw.tr_len (by have := hw.n; omega)
  obtain ⟨q, rfl⟩ := hs.ptr
  clear hs hb hA hI hw hcl
  go_enter Try.func35, Try.ntmps35
  go_wp2_with fail
  refine HTR.out.mono ?_
  rintro e w1 ⟨t, rfl, ht, hb1⟩
  have HA1 : Hid (StA w.heap.size (fun i => T i ∨ NewB W w1 i) w1 g mb (.pointer (some ⟨q, 0, none⟩)) top s.many s.below s.seen s.seen bv sv) := HA.out.more hb1 fun i hi => hi
  have HT1 : Hid (RowT w1 (fun i => T i ∨ NewB W w1 i) t p.tr) := by
    obtain ⟨a, c, e, h1, h2, h3⟩ := ht
    exact ⟨a, c, e, h1, h2, h3.imp id fun ⟨b, off, e, h4, h5, h6⟩ => ⟨b, off, e, h4, .inr h5, h6⟩⟩
  have HB1 : Hid (Below w.heap.size W w1) := hb1.mono (Nat.le_trans HA.out.gB (Nat.le_of_lt HA.out.gl))
  have HK1 : Hid (Kp T W w1) := Kp.below hb1 fun i hi => (HA.out.av i hi).1
  obtain ⟨ta, tc, rfl, ht1, ht2, _⟩ := ht
  unfold maxLen at ht2
  clear hb1 HTR c00 HA
  generalize hU : (fun i => T i ∨ NewB W w1 i) = U at *
  have HU : Hid (∀ i, T i → U i) := fun i hi => by rw [← hU]; exact .inl hi
  clear hU
  generalize hL : p.tr.length = L at *
  have HL := Lib.hid hL; clear hL
  have hL1 : 1 ≤ L := by
    obtain ⟨i, hi, _⟩ := HI.out.lt HW.out (by rw [HL.out]; exact Nat.le_refl _)
    omega
  have hL2 := HTL.out
  go_wp2_with fail
  go_loopw [4] (fun i V => ∃ (k : Nat) (s' : Sd) (bv' sv' : Value), k + 1 ≤ L ∧ i = .int .i64 (k : Int) ∧ StI p c0 top (k + 1) s' ∧ StA w.heap.size U V g mb (.pointer (some ⟨q, 0, none⟩)) top s'.many s'.below s'.seen s'.seen bv' sv' ∧ Kp U w1 V ∧ Below w.heap.size w1 V) (fun i _ => (intOf i).toNat)
  case atStart => exact ⟨L - 1, s, bv, sv, by omega, by go_num, by rw [show L - 1 + 1 = L by omega]; exact HI.out, HA1.out, Kp.refl _ _, Below.refl _ _⟩
  case round =>
    obtain ⟨k, s', bv', sv', hk, rfl, hI, hA, hK, hB⟩ := hrel
    clear HA1 HI
    have HI := Lib.hid hI
    have HA := Lib.hid hA
    have HK := Lib.hid hK
    have HB := Lib.hid hB
    have hlen := StI.lens hI.toMtI HW.out
    obtain ⟨a', c', e', _, _, hx3⟩ := HT1.out.keep HK.out
    injection e' with e1 e2 e3
    subst e1; subst e3
    clear e2
    obtain ⟨b, off, ha, hbl, hUb, hcell⟩ := hx3.resolve_left (by rw [HL.out]; omega)
    subst ha
    have y0 := hcell k (by rw [HL.out]; omega)
    obtain ⟨hlb, hlv, hv1, hv2⟩ := HBD.out k (by omega)
    have c2 := HA.out.c2
    have c0' := HA.out.c0
    have f2 := HA.out.fr 2
    have gl := HA.out.gl
    have HOP : Hid (∀ V, Below wr.heap.size wr V → Calls Try.prog 62 #[.pointer (some ⟨g, 0, none⟩), .int .i64 (p.tr.getD k 0)] V fun e w' => e = .returned (.bool (decide (opn p top s' k))) ∧ Below V.heap.size V w') := fun V hV => by
      have := open_any (HP.out V (HB1.out.trans (HB.out.trans (hV.mono (Nat.le_trans HA.out.gB (Nat.le_of_lt HA.out.gl)))))) (HA.out.keep hV) (p.tr.getD k 0) hlb
      rw [hlv] at this
      have e : (s'.seen.contains (vrI p k) && decide (levP p (vrI p k) = top)) = decide (opn p top s' k) := by
        rw [Bool.eq_iff_iff, Bool.and_eq_true, decide_eq_true_iff, decide_eq_true_iff, List.contains_iff_mem]
        exact Iff.rfl
      rwa [e] at this
    have HBZ : Hid (∀ V, Below wr.heap.size wr V → Kp T W V ∧ Below w.heap.size W V ∧ Kp U w1 V ∧ Below w.heap.size w1 V) := fun V hV => by
      have h1 : Below w.heap.size wr V := hV.mono (Nat.le_trans HA.out.gB (Nat.le_of_lt HA.out.gl))
      have h2 : Kp U wr V := Kp.below hV fun i hi => (HA.out.av i hi).1
      exact ⟨HK1.out.trans ((HK.out.trans h2).sub HU.out), HB1.out.trans (HB.out.trans h1), HK.out.trans h2, HB.out.trans h1⟩
    have HLB := Lib.hid (And.intro hlb (And.intro hlv (And.intro hv1 hv2)))
    have HPZ : Hid (∀ V, Below wr.heap.size wr V → PrS V (.pointer (some ⟨q, 0, none⟩)) S p) := fun V hV => HP.out V (HB1.out.trans (HB.out.trans (hV.mono (Nat.le_trans HA.out.gB (Nat.le_of_lt HA.out.gl)))))
    clear hI hA hK hB hcell hx3 hlb hlv hv1 hv2
    obtain ⟨m0, b0, z0⟩ := s'
    simp only at hlen c2
    obtain ⟨hm1, hm2, hm3⟩ := hlen
    generalize hl : p.tr.getD k 0 = l at *
    have HLQ := Lib.hid hl
    clear hl
    by_cases hmm : 1 < m0
    · have d1 : decide (1 < (m0 : Int)) = true := decide_eq_true (by omega)
      by_cases ho : opn p top ⟨m0, b0, z0⟩ k
      · rw [decide_eq_true ho] at HOP
        obtain ⟨kk, cc, hre, hcc, hdd⟩ := HI.out.take HW.out (by rw [HL.out]; omega) ho hmm
        have HDD := Lib.hid hdd
        have hkl : kk < p.cl.length := by
          rcases Nat.lt_or_ge kk p.cl.length with h | h
          · exact h
          · simp [List.getD, List.getElem?_eq_none h] at hcc
        have hkl2 := HCL.out
        have HCC := Lib.hid hcc
        have HRE := Lib.hid hre
        clear hre hcc hdd ho
        go_wp2_with fail
        refine (HOP.out _ (Below.refl _ _)).mono ?_
        rintro e w3 ⟨rfl, hb3⟩
        have HA3 := Lib.hid (HA.out.keep hb3)
        have HB3 := Lib.hid hb3
        have c23 := HA3.out.c2
        have f23 := HA3.out.fr 2
        have gl3 := HA3.out.gl
        clear hb3
        have y3 := (HB3.out.cell (p := ⟨b, off + k, none⟩) hbl).trans y0
        obtain ⟨hA4, hk4, hb4⟩ := HA3.out.setMany (m0 - 1)
        rw [show ((m0 - 1 : Nat) : Int) = (m0 : Int) - 1 by omega] at hA4 hk4 hb4
        have hbg : b ≠ g := (HA.out.av b hUb).2.1
        have HK4 : Hid (Kp U w1 (w3.setCell ⟨g, 2, none⟩ (.int .i64 ((m0 : Int) - 1)))) := (HBZ.out _ HB3.out).2.2.1.trans hk4
        have HB4 : Hid (Below w.heap.size w1 (w3.setCell ⟨g, 2, none⟩ (.int .i64 ((m0 : Int) - 1)))) := (HBZ.out _ HB3.out).2.2.2.trans hb4
        have y4 : (w3.setCell ⟨g, 2, none⟩ (.int .i64 ((m0 : Int) - 1))).cell? ⟨b, off + k, none⟩ = some (.int .i64 l) := (set_off (.inl (fun e => hbg e.symm))).trans y3
        have HA4 := Lib.hid hA4
        clear hA4 hk4 hb4 hbg
        go_upto_region 7 with fail
        generalize w3.setCell ⟨g, 2, none⟩ (.int .i64 ((m0 : Int) - 1)) = w4 at *
        have c04 := HA4.out.c0
        have HPV : Hid (∀ V, Below w4.heap.size w4 V → PrS V (.pointer (some ⟨q, 0, none⟩)) S p) := fun V hV => HP.out V (HB1.out.trans (HB4.out.trans (hV.mono (Nat.le_trans HA4.out.gB (Nat.le_of_lt HA4.out.gl)))))
        obtain ⟨hlb, hlv, hv1, hv2⟩ := HLB.out
        have HVA := Lib.hid (fun V => var_any l V (by omega) (by omega))
        have HRV : Hid (∀ V, Below w4.heap.size w4 V → Calls Try.prog 52 #[.pointer (some ⟨q, 0, none⟩), .int .i64 (absI l)] V fun e w' => e = .returned (.int .i64 (kk : Int)) ∧ V = w') := fun V hV => by
          have := prea_any V (HPV.out V hV) (absI l) (by omega) (by omega)
          rwa [hlv, HRE.out, ← hlv] at this
        have HCV : Hid (∀ V, Below w4.heap.size w4 V → Calls Try.prog 31 #[.pointer (some ⟨q, 0, none⟩), .int .i64 (kk : Int)] V fun e w' => ∃ u d, e = .returned u ∧ (RowT w' (NewB V w') u d ∧ d.Perm cc) ∧ Below V.heap.size V w') := fun V hV => by
          refine (pclsT_any V (HPV.out V hV) (kk : Int) (by omega) (by omega)).mono ?_
          rintro e w' ⟨u, d, e1, e2, e3, e4⟩
          rw [if_neg (by omega), Int.toNat_natCast, HCC.out, Option.getD_some] at e3
          exact ⟨u, d, e1, ⟨e2, e3⟩, e4⟩
        have HCW : Hid (∀ l ∈ cc, -4000 ≤ l ∧ l ≤ 4000) := fun l hl => by
          have h1 := (HW.out.cls cc (mem_clsP.2 ⟨kk, HCC.out⟩)).2 l hl
          have h2 := plc_absI l
          have h3 := HW.out.n
          have h4 : absI l = l ∨ absI l = -l := by unfold absI; split <;> simp
          omega
        have HCN : Hid (cc.length ≤ 10000) := by
          have hnd := (HW.out.cls cc (mem_clsP.2 ⟨kk, HCC.out⟩)).1
          have hsub : cc ⊆ (List.range 8001).map (fun (i : Nat) => (i : Int) - 4000) := fun x hx => by
            have := HCW.out x hx
            exact List.mem_map.2 ⟨(x + 4000).toNat, List.mem_range.2 (by omega), by omega⟩
          have := hnd.length_le_of_subset hsub
          unfold Hid
          simp at this
          omega
        have HMT : Hid (∀ V w5 u d, Below w4.heap.size w4 V → (RowT w5 (NewB V w5) u d ∧ d.Perm cc) → Below V.heap.size V w5 → ∀ V', Below w5.heap.size w5 V' → Calls Try.prog 34 #[.pointer (some ⟨g, 0, none⟩), u] V' fun e w' => e = .returned (.tuple #[]) ∧ (∃ bv2 sv2, StA w.heap.size U w' g mb (.pointer (some ⟨q, 0, none⟩)) top (meetF p top ⟨m0 - 1, b0, z0⟩ d).many (meetF p top ⟨m0 - 1, b0, z0⟩ d).below (meetF p top ⟨m0 - 1, b0, z0⟩ d).seen (meetF p top ⟨m0 - 1, b0, z0⟩ d).seen bv2 sv2) ∧ Kp U w1 w' ∧ Below w.heap.size w1 w') := by
          intro V w5 u d hV hud h5 V' hV'
          have hn : d.length ≤ 10000 := by rw [hud.2.length_eq]; exact HCN.out
          have a1 := HA4.out.keep hV
          have a2 : StA w.heap.size (fun i => U i ∨ NewB V w5 i) w5 g mb (.pointer (some ⟨q, 0, none⟩)) top (m0 - 1) b0 z0 z0 bv' sv' := a1.more h5 fun i hi => hi
          have a3 := a2.keep hV'
          have r3 : RowT V' (fun i => U i ∨ NewB V w5 i) u d := by
            obtain ⟨a, c, e, h1, h2, h3⟩ := hud.1
            have : RowT w5 (fun i => U i ∨ NewB V w5 i) u d := ⟨a, c, e, h1, h2, h3.imp id fun ⟨b, off, e, h4, h5, h6⟩ => ⟨b, off, e, h4, .inr h5, h6⟩⟩
            exact this.keep (Kp.below hV' fun i hi => (a2.av i hi).1)
          have hle : w.heap.size ≤ w4.heap.size := Nat.le_trans HA4.out.gB (Nat.le_of_lt HA4.out.gl)
          have hB' : Below w.heap.size w4 V' := (hV.mono hle).trans ((h5.mono (Nat.le_trans hle hV.size)).trans (hV'.mono (Nat.le_trans hle (Nat.le_trans hV.size h5.size))))
          refine (meet_any (s := ⟨m0 - 1, b0, z0⟩) HS.out (HBW.out.trans (HB1.out.trans (HB4.out.trans hB'))) a3 u d r3 (fun l hl => HCW.out l (hud.2.mem_iff.1 hl)) (by simp only; omega) (by simp only; omega) (by simp only; omega)).mono ?_
          rintro e w' ⟨he, ⟨bv2, sv2, hA6⟩, hk6, hb6⟩
          have hku : Kp U w4 V' := (Kp.below hV fun i hi => (HA4.out.av i hi).1).trans (((Kp.below h5 fun i hi => (a1.av i hi).1)).trans (Kp.below hV' fun i hi => (a2.av i (.inl hi)).1))
          exact ⟨he, ⟨bv2, sv2, hA6.less fun i hi => .inl hi⟩, HK4.out.trans (hku.trans (hk6.sub fun i hi => .inl hi)), HB4.out.trans (hB'.trans hb6)⟩
        clear hlb hlv hv1 hv2 c0' c2 c23 f2 f23 y0 y3
        have P0 : Hid (w4.cell? ⟨g, 0, none⟩ = some (.pointer (some ⟨q, 0, none⟩)) ∧ w4.cell? ⟨b, off + k, none⟩ = some (.int .i64 l)) := ⟨c04, y4⟩
        have P1 : Hid (w4.drew.cell? ⟨g, 0, none⟩ = some (.pointer (some ⟨q, 0, none⟩)) ∧ w4.drew.cell? ⟨b, off + k, none⟩ = some (.int .i64 l)) := ⟨c04, y4⟩
        have HS5 : Hid (∀ V w5, Below w4.heap.size w4 V → Below V.heap.size V w5 → w5.cell? ⟨g, 0, none⟩ = some (.pointer (some ⟨q, 0, none⟩)) ∧ w5.cell? ⟨b, off + k, none⟩ = some (.int .i64 l)) := fun V w5 hV h5 => by
          have h : Below w4.heap.size w4 w5 := hV.trans (h5.mono hV.size)
          have h2 := (HA4.out.av b hUb).1
          exact ⟨(h.cell (p := ⟨g, 0, none⟩) HA4.out.gl).trans c04, (h.cell (p := ⟨b, off + k, none⟩) h2).trans y4⟩
        have HS6 : Hid (∀ w6, w6.cell? ⟨g, 0, none⟩ = some (.pointer (some ⟨q, 0, none⟩)) → Kp U w1 w6 → w6.cell? ⟨g, 0, none⟩ = some (.pointer (some ⟨q, 0, none⟩)) ∧ w6.cell? ⟨b, off + k, none⟩ = some (.int .i64 l)) := fun w6 h1 h2 =>
          ⟨h1, (cell_blk ((h2.blk b hUb).trans (HK4.out.blk b hUb).symm) _).trans y4⟩
        have q1 : (0 : Int) ≤ (k : Int) := by omega
        have q2 : (k : Int) < (L : Int) := by omega
        have q3 : (k : Int) ≤ (L : Int) := by omega
        clear c04 y4
        go_region_held3 (fun V => V.cell? ⟨g, 0, none⟩ = some (.pointer (some ⟨q, 0, none⟩)) ∧ V.cell? ⟨b, off + k, none⟩ = some (.int .i64 l)) (first | (with_reducible exact P0.out) | (with_reducible exact P1.out) | (with_reducible exact P5.out.1) | (with_reducible exact P5.out.2) | (with_reducible exact P6.out) | exact P1.out | exact P5.out.2) (first
          | (go_simp; go_at_call 41; refine (HVA.out _).mono ?_; rintro e w' ⟨rfl, rfl⟩)
          | (go_simp; go_at_call 52; refine (HRV.out _ (by first | exact Below.refl _ _ | exact (Below.refl _ _).drew)).mono ?_; rintro e w' ⟨rfl, rfl⟩)
          | (go_simp; go_at_call 31; (refine (HCV.out _ (by first | exact Below.refl _ _ | exact (Below.refl _ _).drew)).mono ?_; rintro e w5 ⟨u, d, rfl, hud, hb5⟩); have P5a := HS5.out _ w5 (by first | exact Below.refl _ _ | exact (Below.refl _ _).drew) hb5; have P5 : Hid ((w5.cell? ⟨g, 0, none⟩ = some (.pointer (some ⟨q, 0, none⟩)) ∧ w5.cell? ⟨b, off + k, none⟩ = some (.int .i64 l)) ∧ (w5.drew.cell? ⟨g, 0, none⟩ = some (.pointer (some ⟨q, 0, none⟩)) ∧ w5.drew.cell? ⟨b, off + k, none⟩ = some (.int .i64 l))) := ⟨P5a, P5a⟩; clear P5a)
          | (go_simp; go_at_call 34; refine (HMT.out _ _ _ _ (by first | exact Below.refl _ _ | exact (Below.refl _ _).drew) hud hb5 _ (by first | exact Below.refl _ _ | exact (Below.refl _ _).drew)).mono ?_; rintro e w6 ⟨rfl, ⟨bv2, sv2, hA6⟩, hk6, hb6⟩; have P6 := Lib.hid (HS6.out _ hA6.c0 hk6)))
        all_goals
          have HI6 := Lib.hid (HDD.out d hud.2)
          obtain ⟨i0, hi0, _⟩ := HI6.out.lt HW.out (by rw [HL.out]; omega)
          have hk1 : 1 ≤ k := by omega
          have HA6 := Lib.hid hA6
          have HK6 := Lib.hid hk6
          have HB6 := Lib.hid hb6
          clear hi0 hA6 hk6 hb6 hud hb5 HMT HCV HRV HVA
          go_wp2_with fail
          go_roundw
          case rel => exact ⟨k - 1, meetF p top ⟨m0 - 1, b0, z0⟩ d, bv2, sv2, by omega, by go_num, by rw [show k - 1 + 1 = k by omega]; exact HI6.out, HA6.out, HK6.out, HB6.out⟩
          case measure => go_light; simp [intOf]; omega
      · rw [decide_eq_false ho] at HOP
        have hI' := HI.out.pass HW.out ho
        obtain ⟨i0, hi0, _⟩ := hI'.lt HW.out (by rw [HL.out]; omega)
        have hk1 : 1 ≤ k := by omega
        have HI2 : Hid (StI p c0 top (k - 1 + 1) ⟨m0, b0, z0⟩) := by unfold Hid; rw [show k - 1 + 1 = k by omega]; exact hI'
        clear hI' hi0
        clear ho
        go_wp2_with fail
        refine (HOP.out _ (Below.refl _ _)).mono ?_
        rintro e w3 ⟨rfl, hb3⟩
        have HB3 := Lib.hid hb3
        clear hb3
        go_wp2_with fail
        go_roundw
        case rel => exact ⟨k - 1, ⟨m0, b0, z0⟩, bv', sv', by omega, by go_num, HI2.out, HA.out.keep HB3.out, (HBZ.out _ HB3.out).2.2.1, (HBZ.out _ HB3.out).2.2.2⟩
        case measure => go_light; simp [intOf]; omega
    · have d1 : decide (1 < (m0 : Int)) = false := decide_eq_false (by omega)
      by_cases ho : opn p top ⟨m0, b0, z0⟩ k
      · obtain ⟨⟨hl1, hl2⟩, _⟩ := HLB.out
        rw [decide_eq_true ho] at HOP
        have HO := Lib.hid ho
        clear ho
        go_wp2_with fail
        refine (HOP.out _ (Below.refl _ _)).mono ?_
        rintro e w3 ⟨rfl, hb3⟩
        have HB3 := Lib.hid hb3
        have y3 := (hb3.cell (p := ⟨b, off + k, none⟩) hbl).trans y0
        clear hb3
        go_wp2_with fail
        go_ret
        exact ⟨k, ⟨m0, b0, z0⟩, by rw [HL.out]; omega, by rw [HLQ.out]; rfl, HI.out, HO.out, hmm, ⟨bv', sv', (HA.out.keep HB3.out).less HU.out⟩, (HBZ.out _ HB3.out).1, (HBZ.out _ HB3.out).2.1⟩
      · rw [decide_eq_false ho] at HOP
        have hI' := HI.out.pass HW.out ho
        obtain ⟨i0, hi0, _⟩ := hI'.lt HW.out (by rw [HL.out]; omega)
        have hk1 : 1 ≤ k := by omega
        have HI2 : Hid (StI p c0 top (k - 1 + 1) ⟨m0, b0, z0⟩) := by unfold Hid; rw [show k - 1 + 1 = k by omega]; exact hI'
        clear hI' hi0
        clear ho
        go_wp2_with fail
        refine (HOP.out _ (Below.refl _ _)).mono ?_
        rintro e w3 ⟨rfl, hb3⟩
        have HB3 := Lib.hid hb3
        have y3 := (hb3.cell (p := ⟨b, off + k, none⟩) hbl).trans y0
        clear hb3
        go_wp2_with fail
        refine (HOP.out _ HB3.out).mono ?_
        rintro e w4 ⟨rfl, hb4⟩
        have HB4 : Hid (Below wr.heap.size wr w4) := HB3.out.trans (hb4.mono HB3.out.size)
        clear hb4
        go_wp2_with fail
        go_roundw
        case rel => exact ⟨k - 1, ⟨m0, b0, z0⟩, bv', sv', by omega, by go_num, HI2.out, HA.out.keep HB4.out, (HBZ.out _ HB4.out).2.2.1, (HBZ.out _ HB4.out).2.2.2⟩
        case measure => go_light; simp [intOf]; omega
end Go.Proofs.Ytjlmooimdogmjaa

set_option linter.unusedVariables false
set_option linter.unusedSimpArgs false
namespace Go.Proofs.Ytjlmooimdogmjaa
open Go.RowKit Go.Maps

def lvsL (p : Pr) (c : List Int) : List Int := c.map fun l => levP p (plc l : Int)
theorem lvsL_snoc (p : Pr) (c : List Int) (l : Int) : lvsL p (c ++ [l]) = lvsL p c ++ [levP p (plc l : Int)] := by simp [lvsL]

set_option maxRecDepth 8000 in
set_option maxHeartbeats 4000000 in
theorem levels_any {v : Value} {S : List Nat} {p : Pr} {T : Nat → Prop} (w : World) (hs : PrS w v S p) (u : Value) (c : List Int) (hu : RowT w T u c) (hT : ∀ i, T i → i < w.heap.size) (hf : AllF p c) (hlc : c.length ≤ 100000) :
    Calls Try.prog 36 #[v, u] w fun e w' => e = .returned (.int .i64 ((ddL (lvsL p c)).length : Int)) ∧ Below w.heap.size w w' := by
  have HPV : Hid (∀ V, Below w.heap.size w V → PrS V v S p) := fun V hV => hs.below hV
  have HV : Hid (∀ l ∈ c, (-4000 ≤ l ∧ l ≤ 4000) ∧ absI l = (plc l : Int) ∧ 0 ≤ absI l ∧ absI l ≤ 4000 ∧ 0 ≤ levP p (absI l) ∧ levP p (absI l) ≤ 4001) := fun l hl => by
    have := hf.bd hs.wf hl
    exact ⟨by omega, (plc_absI l).symm, by omega, by omega, this.2.2.2.1, this.2.2.2.2⟩
  have HTT := Lib.hid hT
  have HUK : Hid (∀ V, Below w.heap.size w V → RowT V T u c) := fun V hV => hu.keep (Kp.below hV HTT.out)
  have HCT : Hid (∀ j, j < c.length → c.take (j + 1) = c.take j ++ [c.getD j 0] ∧ c.getD j 0 ∈ c) := fun j hj => ⟨take_snoc c j hj, getD_mem hj⟩
  obtain ⟨q, rfl⟩ := hs.ptr
  obtain ⟨a, cc, rfl, hu1, hu2, hu3⟩ := hu
  unfold maxLen at hu2
  have hmm := @run_makeMap Try.prog
  have HZ : Hid ((w.alloc (.map #[] 0)).ownsMap Try.prog 3 unitElem w.heap.size 0 (setI (lvsL p (c.take 0)))) := by
    unfold Hid
    rw [List.take_zero, show lvsL p [] = [] from rfl, setI_nil]
    exact World.ownsMap_made (H := Unit) w Try.prog 3 unitElem
  have HBZ : Hid (Below w.heap.size w (w.alloc (.map #[] 0))) := (Below.refl _ _).alloc (Nat.le_refl _) _
  clear hs hf hT hu3
  generalize hL : c.length = L at *
  have HL := Lib.hid hL
  clear hL
  go_enter Try.func36, Try.ntmps36
  go_upto_region 2 with fail
  clear hmm
  generalize w.alloc (.map #[] 0) = w1 at *
  generalize hBe : w.heap.size = B at *
  have HBE := Lib.hid hBe
  clear hBe
  go_wp2_with fail
  go_loopw [7, 11] (fun _ iv W => ∃ j : Nat, j ≤ L ∧ iv = .int .i64 (j : Int) ∧ W.ownsMap Try.prog 3 unitElem B j (setI (lvsL p (c.take j))) ∧ Below B w W) (fun _ iv _ => L - (intOf iv).toNat)
  case atStart => exact ⟨0, Nat.zero_le _, rfl, HZ.out, HBZ.out⟩
  case round =>
    obtain ⟨j, hj, rfl, hm, hbw⟩ := hrel
    have HM := Lib.hid hm
    have HBW := Lib.hid hbw
    clear hbw HZ HBZ
    by_cases hlt : j < L
    · obtain ⟨a', c', e', _, _, hx3⟩ := HUK.out _ HBW.out
      injection e' with e1 e2 e3
      subst e1; subst e3
      clear e2
      obtain ⟨b, off, ha, hbl, _, hcell⟩ := hx3.resolve_left (by rw [HL.out]; omega)
      subst ha
      have y0 := hcell j (by rw [HL.out]; exact hlt)
      obtain ⟨htk, hin⟩ := HCT.out j hlt
      obtain ⟨⟨hx1, hx2⟩, hpl, v1, v2, v3, v4⟩ := HV.out _ hin
      have HTK := Lib.hid htk
      have HLS : Hid (lvsL p (c.take (j + 1)) = lvsL p (c.take j) ++ [levP p (absI (c.getD j 0))]) := by
        unfold Hid
        rw [htk, lvsL_snoc, ← hpl]
      clear hcell hx3 htk hin hpl HTK
      generalize c.getD j 0 = x at *
      have HVA := Lib.hid (fun Z => var_any x Z (by omega) (by omega))
      have HVV := Lib.hid (plev_any wr (HPV.out _ HBW.out) (absI x) (by omega) (by omega))
      have hkey := keyI (levP p (absI x)) (by omega) (by omega)
      generalize levP p (absI x) = lv at *
      generalize absI x = ax at *
      clear v1 v2 v3 v4
      go_wp2_with fail
      refine (HVA.out _).mono ?_
      rintro e w' ⟨rfl, rfl⟩
      go_wp2_with fail
      refine HVV.out.mono ?_
      rintro e w' ⟨rfl, rfl⟩
      go_wp2_with (at_mapUpdate; refine wpList_mapUpdate_own _ rfl _ _ _ 58 rfl 3 86 lawI Try.underlying58 (unitElem (H := Unit)) B j (setI (lvsL p (c.take j))) rfl hm (by unfold maxLen; omega) _ _ _ rfl rfl hkey _ [] unitElem_mk ?_; intro w2 ho2 hg2)
      have HM2 : Hid (w2.ownsMap Try.prog 3 unitElem B (j + 1) (setI (lvsL p (c.take (j + 1))))) := by
        unfold Hid
        rw [HLS.out, setI_snoc]
        exact ho2
      have hcg : Chg [B] wr w2 := Chg.grown hg2 (by simp)
      have HBW2 : Hid (Below B w w2) := HBW.out.trans (hcg.below (Below.refl _ _) (Nat.le_of_lt HM.out.lt) (by simp))
      clear ho2 hg2 hcg
      go_roundw
      case rel => exact ⟨j + 1, by omega, by go_num, HM2.out, HBW2.out⟩
      case measure => go_light; simp [intOf]; omega
    · have e1 : decide ((j : Int) < (L : Int)) = false := decide_eq_false (by omega)
      have e2 : decide (j < L) = false := decide_eq_false hlt
      have HSZ : Hid (Maps.size (setI (lvsL p (c.take j))) = (ddL (lvsL p c)).length) := by
        have h2 : j = L := by omega
        unfold Hid
        rw [size_setI, h2]
        have h3 := List.take_length (l := c)
        rw [HL.out] at h3
        rw [h3]
      have hm2 := HM.out
      clear hlt
      go_wp2_with (at_len; refine wpList_len_own _ rfl _ 58 rfl 3 86 Try.underlying58 unitElem B j (setI (lvsL p (c.take j))) rfl hm2 ?_)
      go_ret
      exact ⟨by first | rfl | (rw [HSZ.out]; rfl), by rw [HBE.out]; exact HBW.out⟩
end Go.Proofs.Ytjlmooimdogmjaa
