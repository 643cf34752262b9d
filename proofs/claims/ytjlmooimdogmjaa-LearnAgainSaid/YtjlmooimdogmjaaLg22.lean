/- The contract of prop's Back, of the state in memory. Conditions: 64-bit ints; the prop lies in memory as 'MA' says, at rest. -/
import Derived.Test.YtjlmooimdogmjaaLg20
import Derived.Test.YtjlmooimdogmjaaLg21
import Derived.BigRegion
set_option linter.unusedVariables false
set_option linter.unusedSimpArgs false
namespace Go.Proofs.Ytjlmooimdogmjaa
open Go.RowKit

def rdel (ρ : Nat → Option Rl) (v : Value) : Nat → Option Rl := fun b => if v.ownBlock = some b then none else ρ b
/-- How far Back has come, in memory. -/
structure BkM (w : World) (ρ : Nat → Option Rl) (L : Lay) (m : Mc) (s e : Nat) (wr : World) (ρ1 : Nat → Option Rl) (L1 : Lay) (mj : Mc) : Prop where
  chr : Chr ρ w ρ1 wr
  lay : LayU L L1
  ma : MA wr ρ1 L1 mj
  i : BkI m s e mj
def BackR (w : World) (ρ : Nat → Option Rl) (L : Lay) (m : Mc) (k : Int) (w' : World) : Prop :=
  (m.st.length ≤ k.toNat ∧ w' = w) ∨ (k.toNat < m.st.length ∧ ∃ ρ' L' mj, Chr ρ w ρ' w' ∧ L'.p = L.p ∧ L'.cb = L.cb ∧ MA w' ρ' L' (cutM mj (m.st.getD k.toNat 0) k.toNat) ∧ BkI m (m.st.getD k.toNat 0) m.tr.length mj)
section
variable {w wr : World} {ρ ρ1 : Nat → Option Rl} {L L1 : Lay} {m mj : Mc} {s e : Nat}
theorem MA.clearL (h : MA w ρ L m) {v : Nat} (hv : v ≤ m.n) :
    MA (w.setCell ⟨L.vb, v * 5 + 4, none⟩ nilS) (rdel ρ (L.lw v)) { L with lw := upd L.lw v nilS } { m with lt := upd m.lt v [] } ∧ Chr ρ w (rdel ρ (L.lw v)) (w.setCell ⟨L.vb, v * 5 + 4, none⟩ nilS) ∧ LocR (rdel ρ (L.lw v)) (w.setCell ⟨L.vb, v * 5 + 4, none⟩ nilS) { L with lw := upd L.lw v nilS } (L.lw v) (m.lt v) := by
  have hl := (h.at' (.l v)).2
  have hne : ∀ b r, ρ b = some r → r ≠ .l v → rdel ρ (L.lw v) b = some r := fun b r hb hr => by
    unfold rdel
    rw [if_neg fun e => hr ?_]
    · exact hb
    · have := hl b e
      rw [hb] at this
      injection this
  have hP : Part w (rdel ρ (L.lw v)) L m (.l v) := by
    refine ⟨fun b r hb => ?_, h.hi, fun r hr => (h.at' r).keep (fun b hb => h.lt b r hb) (Nat.le_refl _) fun b hb => ⟨hne b r hb hr, rfl⟩⟩
    unfold rdel at hb
    split at hb
    · cases hb
    · exact h.lt b r hb
  have hvb := hne _ _ h.rv (by nofun)
  have hC : Chr ρ w (rdel ρ (L.lw v)) w := ⟨rfl, rfl, rfl, Nat.le_refl _, fun _ _ _ => rfl, fun i _ hn => by unfold rdel; split; (· rfl); (· exact hn)⟩
  refine ⟨hP.setL hv ⟨World.ownsRow_nil _ _ _ _, fun k hk => by cases hk⟩, hC.setCell hvb _, ?_, fun k hk => by unfold rdel; rw [if_pos hk]⟩
  refine own_out (h.own_l v) (fun e => ?_) _ _
  have := hl _ e
  rw [h.rv] at this
  cases this
theorem BkM.drewN (h : BkM w ρ L m s e wr ρ1 L1 mj) (t : Nat) : BkM w ρ L m s e (wr.drewN t) ρ1 L1 mj := { h with chr := h.chr.drewN t, ma := h.ma.drewN t }

/-- Its value is known no more. -/
theorem BkM.unset (h : BkM w ρ L m s e wr ρ1 L1 mj) (l : Int) (hl : plc l ≤ 4000) :
    Calls Try.prog 40 #[.pointer (some ⟨L1.ap, 0, none⟩), .int .i64 (absI l)] wr fun e' w' => e' = .returned (.tuple #[]) ∧ Chr ρ w ρ1 w' ∧ MA w' ρ1 L1 { mj with vs := unsetV mj.vs (plc l : Int) } := by
  have e := plc_abs l
  have := unset_any h.ma.asg (absI l) (by omega) (by omega)
  rw [← e] at this ⊢
  refine this.mono ?_
  rintro e' w' ⟨he, ha, ho⟩
  exact ⟨he, h.chr.trans (Chr.of_only (h.ma.at' .a).2.1 ho), h.ma.asgSet ho ha⟩

/-- What it was late for is to be looked at. -/
theorem BkM.loose (h : BkI m s e mj) (hI : McI m) (hse : s ≤ e) (he : e < m.tr.length) (hnx : m.nx ≤ 1000000) (hlay : LayU L L1) {W : World} (hC : Chr ρ w ρ1 W) (hM : MA W ρ1 L1 { mj with vs := unsetV mj.vs (plc (m.tr.getD e 0) : Int), rs := upd mj.rs (plc (m.tr.getD e 0)) none }) :
    Calls Try.prog 43 #[.pointer (some ⟨L.p, 0, none⟩), L1.lw (plc (m.tr.getD e 0))] (W.setCell ⟨L1.vb, plc (m.tr.getD e 0) * 5 + 4, none⟩ nilS) fun e' w' => e' = .returned (.tuple #[]) ∧ ∃ ρ2 L2 m2, BkM w ρ L m s (e + 1) w' ρ2 L2 m2 := by
  have hr := hI.w.rgt (getD_mem' he)
  obtain ⟨h1, h2, h3⟩ := hM.clearL (v := plc (m.tr.getD e 0)) (by show _ ≤ mj.n; rw [h.en]; exact hr.2)
  have hst := h.step hI.w hse he
  obtain ⟨v, hv⟩ : ∃ v, plc (m.tr.getD e 0) = v := ⟨_, rfl⟩
  rw [hv] at h1 h2 h3 hst ⊢
  have hmid := h.mid v
  have hcl : ∀ y c, mj.cl y = some c → (∀ l ∈ c, plc l ≤ mj.n) ∧ c.length ≤ 1000000 := fun y c hc => by rw [h.en]; exact hI.w.cl_lit (by rw [← h.ecl]; exact hc)
  have hb1 : ∀ j, ((bkM mj v).wt j).length ≤ m.nx := fun j => pig (hmid.wtN j) fun y hy => by
    obtain ⟨_, a, b, r, h4, _⟩ := hmid.wtc j y hy
    have h5 : mj.cl y = some (a :: b :: r) := h4
    rw [h.ecl] at h5
    exact (hI.w.cls y _ h5).1
  have hb2 : ∀ j, ((bkM mj v).lt j).length ≤ m.nx := fun j => pig (hmid.ltN j) fun y hy => by
    obtain ⟨_, a, r, h4, _⟩ := hmid.ltc j y hy
    have h5 : mj.cl y = some (a :: r) := h4
    rw [h.ecl] at h5
    exact (hI.w.cls y _ h5).1
  have hb3 : (mj.lt v).length ≤ m.nx := pig (h.l.ltN v) fun y hy => by
    obtain ⟨_, a, r, h4, _⟩ := h.l.ltc v y hy
    rw [h.ecl] at h4
    exact (hI.w.cls y _ h4).1
  have hb4 : mj.td.length ≤ m.nx := pig h.l.tdn fun y hy => by
    obtain ⟨_, c, h4⟩ := h.l.tdF y hy
    rw [h.ecl] at h4
    exact (hI.w.cls y _ h4).1
  have hL : Lst (bkM mj v) := ⟨fun j y hy => by obtain ⟨_, a, b, r, h4, _⟩ := hmid.wtc j y hy; exact ⟨_, h4⟩, fun j y hy => by obtain ⟨_, a, r, h4, _⟩ := hmid.ltc j y hy; exact ⟨_, h4⟩, fun j => by have := hb1 j; omega, fun j => by have := hb2 j; omega⟩
  have hlo := mloo_any (m := bkM mj v) h1 _ _ h3 (fun y hy => by obtain ⟨_, a, r, h4, _⟩ := h.l.ltc v y hy; exact ⟨_, h4⟩) hcl (by show mj.n ≤ 4000; rw [h.en]; exact hI.w.n) hL (by show (mj.lt v).length ≤ _; omega) (by show mj.td.length ≤ _; omega)
  unfold ptrP at hlo
  rw [show ({ L1 with lw := upd L1.lw v nilS } : Lay).p = L.p from hlay.p] at hlo
  refine hlo.mono ?_
  rintro e' w' ⟨he', ρ2, hC2, L2, hE2, hM2⟩
  exact ⟨he', ρ2, L2, _, (hC.trans h2).trans hC2, ⟨⟨hE2.p, hE2.cb.trans hlay.cb, hE2.cv.trans hlay.cv, hE2.vb.trans hlay.vb⟩, hE2.trv.trans hlay.trv, hE2.stv.trans hlay.stv⟩, hM2, hst⟩
/-- The trail and the levels are cut. -/
theorem BkM.cut (h : BkM w ρ L m s e wr ρ1 L1 mj) {k : Nat} (hs : s ≤ m.tr.length) (hk : k ≤ m.st.length) {ta sa : Option Addr} {tc sc : Nat} (ht : L.trv = .slice ta m.tr.length tc) (hst : L.stv = .slice sa m.st.length sc) :
    ∃ ρ' L', Chr ρ w ρ' (((wr.setCell ⟨L.p, 2, none⟩ (.slice ta s tc)).setCell ⟨L.p, 4, none⟩ (.slice sa k sc)).setCell ⟨L.p, 3, none⟩ (.int .i64 ((min m.told s : Nat) : Int))) ∧ L'.p = L.p ∧ L'.cb = L.cb ∧ MA (((wr.setCell ⟨L.p, 2, none⟩ (.slice ta s tc)).setCell ⟨L.p, 4, none⟩ (.slice sa k sc)).setCell ⟨L.p, 3, none⟩ (.int .i64 ((min m.told s : Nat) : Int))) ρ' L' (cutM mj s k) := by
  have pre : ∀ {a : Option Addr} {n c q : Nat} {xs : List Value} {W : World} {E : TypeId}, W.ownsRow 0 E 1 (.slice a n c) n xs → q ≤ n → W.ownsRow 0 E 1 (.slice a q c) q (xs.take q) := fun {a n c q xs W E} ho hq => by
    rcases ho.2 with ⟨e1, e2⟩ | ⟨g, cap, cur, e1, _⟩
    · injection e1 with e1 e3 e4
      subst e1; subst e4
      have : q = 0 := by omega
      subst this
      exact World.ownsRow_nil _ _ _ _
    · injection e1 with e1 _ e3
      subst e1; subst e3
      have hl := ho.1
      refine own_less (m := n - q) (ys := xs.drop q) ?_ (by rw [List.length_take]; omega)
      rw [List.take_append_drop, show q + (n - q) = n by omega]
      exact ho
  have eqb : ∀ (a : Option Addr) (n n' c : Nat), (Value.slice a n c).ownBlock = (Value.slice a n' c).ownBlock := fun a _ _ _ => by cases a <;> rfl
  have etr : L1.trv = .slice ta m.tr.length tc := h.lay.trv.trans ht
  have est : L1.stv = .slice sa m.st.length sc := h.lay.stv.trans hst
  have r1 := (h.ma.at' .tr).1
  rw [List.length_map, etr, h.i.etr] at r1
  have p1 := pre r1 hs
  rw [← List.map_take] at p1
  have b1 : ∀ q, (Value.slice ta s tc).ownBlock = some q → ρ1 q = some .tr := fun q hq => (h.ma.at' .tr).2 q (by rw [etr, eqb _ _ s]; exact hq)
  have hP1 : Part wr ρ1 L1 mj .tr := h.ma.part _
  have hM1 := hP1.setTr (v := .slice ta s tc) (xs := m.tr.take s) ⟨by rw [List.length_map, List.length_take, Nat.min_eq_left hs]; exact p1, b1⟩
  rw [h.lay.p] at hM1
  have r2 := (hM1.at' .st).1
  rw [List.length_map] at r2
  have r2' : (wr.setCell ⟨L.p, 2, none⟩ (.slice ta s tc)).ownsRow 0 3 1 (.slice sa m.st.length sc) m.st.length (m.st.map fun (s : Nat) => Value.int .i64 (s : Int)) := by
    have e1 : ({ L1 with p := L.p, trv := .slice ta s tc } : Lay).stv = .slice sa m.st.length sc := est
    rw [e1] at r2
    have e2 : ({ mj with tr := m.tr.take s } : Mc).st = m.st := h.i.est
    rw [e2] at r2
    exact r2
  have p2 := pre r2' hk
  rw [← List.map_take] at p2
  have b2 : ∀ q, (Value.slice sa k sc).ownBlock = some q → ρ1 q = some .st := fun q hq => (h.ma.at' .st).2 q (by rw [est, eqb _ _ k]; exact hq)
  have hM2 := (hM1.part .st).setSt (v := .slice sa k sc) (xs := m.st.take k) ⟨by rw [List.length_map, List.length_take, Nat.min_eq_left hk]; exact p2, b2⟩
  have hM3 := hM2.setTold (min m.told s)
  have hp := h.ma.rp
  rw [h.lay.p] at hp
  refine ⟨ρ1, { L1 with p := L.p, trv := .slice ta s tc, stv := .slice sa k sc }, ((h.chr.setCell hp _).setCell hp _).setCell hp _, rfl, h.lay.cb, ?_⟩
  unfold cutM
  rw [h.i.etr, h.i.est, h.i.eto]
  exact hM3

set_option maxRecDepth 8000 in
set_option maxHeartbeats 16000000 in
theorem mback_any (h : MA w ρ L m) (hI : McI m) (hnx : m.nx ≤ 1000000) (k : Int) (h1 : -9223372036854775808 ≤ k) (h2 : k ≤ 9223372036854775807) :
    Calls Try.prog 17 #[ptrP L, .int .i64 k] w fun e w' => e = .returned (.tuple #[]) ∧ BackR w ρ L m k w' := by
  have HLV := Lib.hid (mlvl_any h)
  have hstl := hI.w.st_len
  have hn := hI.w.n
  unfold ptrP at *
  obtain ⟨K, hK, hkk⟩ : ∃ K : Nat, k.toNat = K ∧ max k 0 = (K : Int) := ⟨k.toNat, rfl, by omega⟩
  have hmx : (K : Int) = 0 ∧ k < 0 ∨ (k = (K : Int) ∧ 0 < k) ∨ (k = 0 ∧ K = 0) := by omega
  have HK := Lib.hid hK
  by_cases hlt : K < m.st.length
  · obtain ⟨sa, sc, hss, _, _⟩ := ro_shape (h.at' .st)
    obtain ⟨ta, tc, hts, ht1, ht2⟩ := ro_shape (h.at' .tr)
    rw [List.length_map] at hss hts ht1
    unfold maxLen at ht2
    have c4 := h.pc.c4
    have c2 := h.pc.c2
    rw [hss] at c4
    rw [hts] at c2
    have hros := (h.at' .st).1
    rw [List.length_map, hss] at hros
    obtain ⟨gs, cs, e⟩ := own_at hros (by omega)
    injection e with e1 _ e3
    subst e1; subst e3
    obtain ⟨s, hs⟩ : ∃ s, m.st.getD K 0 = s := ⟨_, rfl⟩
    have x4 := own_cell hros (i := K) (u := .int .i64 (s : Int)) (by rw [List.getElem?_map, ← hs]; simp [List.getD, hlt])
    have hsl : s < m.tr.length := by rw [← hs]; exact hI.w.lt _ (by rw [show m.st.getD K 0 = m.st[K] by simp [List.getD, hlt]]; exact List.getElem_mem hlt)
    have hrot := (h.at' .tr).1
    rw [List.length_map, hts] at hrot
    obtain ⟨gt, ct, e⟩ := own_at hrot (by omega)
    injection e with e1 _ e3
    subst e1; subst e3
    have htl : m.tr.length ≤ 4000 := Nat.le_trans hI.w.tr_len hn
    have HM := Lib.hid h
    have HI := Lib.hid hI
    have HS := Lib.hid hs
    have HTS := Lib.hid hts
    have HSS := Lib.hid hss
    have HB0 : Hid (BkM w ρ L m s s w ρ L m) := ⟨Chr.refl _ _, LayU.refl _, h, BkI.start hI s⟩
    have hd1 : ¬ (m.st.length : Int) ≤ (K : Int) := by omega
    have HLT := Lib.hid hlt
    clear h hI hs hss hts hros hrot
    generalize hSL : m.st.length = SL at *
    have HSL := Lib.hid hSL
    clear hSL
    generalize hTL : m.tr.length = TL at *
    have HTL := Lib.hid hTL
    clear hTL
    have hst0 : ¬ tc = s := by omega
    have hd2 : ¬ SL ≤ K := by omega
    have hsl2 : s ≤ TL := by omega
    have hsl3 : (s : Int) ≤ (TL : Int) := by omega
    have hsl4 : (0 : Int) ≤ (s : Int) := by omega
    have step : Hid (Calls Try.prog 17 #[.pointer (some ⟨L.p, 0, none⟩), .int .i64 k] w fun e w' => e = .returned (.tuple #[]) ∧ BackR w ρ L m k w') := by
      unfold Hid
      go_enter Try.func17, Try.ntmps17
      go_upto_region 0 with fail
      go_cut [1] (fun u W => u = .int .i64 (K : Int) ∧ W = w)
      case first =>
        rcases hmx with ⟨e, e2⟩ | ⟨e, e2⟩ | ⟨e, e2⟩
        · have HK0 := Lib.hid (show K = 0 by omega)
          have e3 : ¬ (0 : Int) < k := by omega
          clear e hkk hK hlt hd1
          go_wp2_with fail
          go_meet
          exact ⟨by rw [HK0.out]; rfl, rfl⟩
        · have e3 : ¬ k < 0 := by omega
          go_wp2_with fail
          go_meet
          exact ⟨by first | rfl | rw [e], rfl⟩
        · subst e
          subst e2
          go_wp2_with fail
          go_meet
          exact ⟨rfl, rfl⟩
      case rest =>
        obtain ⟨rfl, rfl⟩ := hcut
        clear hmx hkk
        go_wp2_with fail
        refine HLV.out.mono ?_
        rintro e w1 ⟨rfl, rfl⟩
        go_wp2_with fail
        go_loopw [6, 7, 8, 29] (fun _ _ _ u29 wr => ∃ (j : Nat) (ρ1 : Nat → Option Rl) (L1 : Lay) (mj : Mc), s + j ≤ TL ∧ u29 = .int .i64 (j : Int) ∧ BkM wc ρ L m s (s + j) wr ρ1 L1 mj) (fun _ _ _ u29 _ => TL - (intOf u29).toNat)
        case atStart => exact ⟨0, ρ, L, m, by omega, rfl, HB0.out⟩
        case round =>
          obtain ⟨j, ρ1, L1, mj, hj, rfl, hB⟩ := hrel
          have HB := Lib.hid hB
          have hrow := (hB.ma.at' .tr).1
          rw [List.length_map, hB.lay.trv, HTS.out, hB.i.etr, HTL.out] at hrow
          have c0 := hB.ma.pc.c0
          rw [hB.lay.p] at c0
          by_cases hjl : s + j < TL
          · have x6 := own_cell hrow (i := s + j) (u := .int .i64 (m.tr.getD (s + j) 0)) (by rw [List.getElem?_map]; simp [List.getD, show s + j < m.tr.length by rw [HTL.out]; exact hjl])
            have hpl := (HI.out.w.rgt (getD_mem' (show s + j < m.tr.length by rw [HTL.out]; exact hjl))).2
            obtain ⟨hl1, hl2⟩ := lit_bd hpl hn
            have HVR := Lib.hid (fun W => var_any (m.tr.getD (s + j) 0) W (by omega) (by omega))
            have HUN := Lib.hid (fun t => (hB.drewN t).unset (m.tr.getD (s + j) 0) (by omega))
            have HJL := Lib.hid hjl
            have HPL := Lib.hid hpl
            have hjd : j < TL - s := by omega
            obtain ⟨y, hy⟩ : ∃ y, m.tr.getD (s + j) 0 = y := ⟨_, rfl⟩
            rw [hy] at x6 HVR HUN HPL hl1 hl2
            have HY := Lib.hid hy
            clear hB hrow hpl hy hjl
            go_wp2_with fail
            go_cut [39] (fun _ W => Chr ρ wc ρ1 W ∧ MA W ρ1 L1 { mj with vs := unsetV mj.vs (plc y : Int) })
            case first =>
              go_region_with (first | (refine (HVR.out _).mono ?_; rintro e w5 ⟨rfl, rfl⟩) | (refine (HUN.out _).mono ?_; rintro e w5 ⟨rfl, hu1, hu2⟩; have HU1 := Lib.hid hu1; have HU2 := Lib.hid hu2; clear hu1 hu2))
              all_goals (go_wp2_with fail; go_meet; exact ⟨HU1.out, HU2.out⟩)
            case rest =>
              obtain ⟨hC1, hM1⟩ := hcut
              have hn1 : mj.n ≤ 4000 := by rw [HB.out.i.en]; exact hn
              have hpn : plc y ≤ mj.n := by rw [HB.out.i.en]; exact HPL.out
              have HO := Lib.hid (mof_any hM1 y hpn hn1)
              unfold ptrP at HO
              rw [HB.out.lay.p] at HO
              have HC1 := Lib.hid hC1
              have HM1 := Lib.hid hM1
              have HPN := Lib.hid hpn
              clear hC1 hM1 c0 x6 hpn
              go_wp2_with fail
              refine HO.out.mono ?_
              rintro e w7 ⟨rfl, t7, rfl⟩
              rename World => W7
              have HM2 := Lib.hid (HM1.out.drewN t7)
              have g1 := HM2.out.var (v := plc y) (k := 1) HPN.out (by omega)
              have g4 := HM2.out.var (v := plc y) (k := 4) HPN.out (by omega)
              rw [show vcell L1 { mj with vs := unsetV mj.vs (plc y : Int) } (plc y) 4 = L1.lw (plc y) from rfl] at g4
              have f1 := HM2.out.varF (plc y * 5 + 1)
              have f4 := HM2.out.varF (plc y * 5 + 4)
              obtain ⟨la, lc, hls, _⟩ := own_shape (HM2.out.own_l (plc y))
              have HLS := Lib.hid hls
              rw [hls] at g4
              have hltv := HM2.out.lt _ _ HM2.out.rv
              have HM3 := Lib.hid (HM2.out.setRs HPN.out none)
              rw [show ptrO L1 none = .pointer none from rfl] at HM3
              have HC3 := Lib.hid ((HC1.out.drewN t7).setCell HM2.out.rv (o := plc y * 5 + 1) (.pointer none))
              have HLO : Hid (Calls Try.prog 43 #[.pointer (some ⟨L.p, 0, none⟩), .slice la (mj.lt (plc y)).length lc] (((W7.drewN t7).setCell ⟨L1.vb, plc y * 5 + 1, none⟩ (.pointer none)).setCell ⟨L1.vb, plc y * 5 + 4, none⟩ (.slice none 0 0)) fun e' w' => e' = .returned (.tuple #[]) ∧ ∃ ρ2 L2 m2, BkM wc ρ L m s (s + (j + 1)) w' ρ2 L2 m2) := by
                have hsj : s + j < m.tr.length := by rw [HTL.out]; exact HJL.out
                have h1 := BkM.loose (L := L) HB.out.i HI.out (by omega) hsj hnx HB.out.lay HC3.out (by rw [HY.out]; exact HM3.out)
                rw [HY.out, HLS.out] at h1
                exact h1
              clear hls
              go_wp2_with fail
              refine HLO.out.mono ?_
              rintro e w8 ⟨rfl, ρ2, L2, m2, hB2⟩
              have HB2 := Lib.hid hB2
              clear hB2
              go_wp2_with fail
              go_roundw
              case rel => exact ⟨j + 1, ρ2, L2, m2, by have := HJL.out; omega, by go_num, HB2.out⟩
              case measure => go_light; have := HJL.out; simp [intOf]; omega
          · have hje : s + j = TL := by omega
            have hjd : ¬ j < TL - s := by omega
            have c2' := hB.ma.pc.c2
            have c3' := hB.ma.pc.c3
            have c4' := hB.ma.pc.c4
            have f2 := hB.ma.pc.fr 2
            have f3 := hB.ma.pc.fr 3
            have f4 := hB.ma.pc.fr 4
            have hlp := hB.ma.lt _ _ hB.ma.rp
            rw [hB.lay.p, hB.lay.trv, HTS.out] at c2'
            rw [hB.lay.p, hB.i.eto] at c3'
            rw [hB.lay.p, hB.lay.stv, HSS.out] at c4'
            rw [hB.lay.p] at f2 f3 f4 hlp
            have HFIN : Hid (∃ ρ' L', Chr ρ wc ρ' (((wr.setCell ⟨L.p, 2, none⟩ (.slice (some ⟨gt, 0, none⟩) s tc)).setCell ⟨L.p, 4, none⟩ (.slice (some ⟨gs, 0, none⟩) K sc)).setCell ⟨L.p, 3, none⟩ (.int .i64 ((min m.told s : Nat) : Int))) ∧ L'.p = L.p ∧ L'.cb = L.cb ∧ MA (((wr.setCell ⟨L.p, 2, none⟩ (.slice (some ⟨gt, 0, none⟩) s tc)).setCell ⟨L.p, 4, none⟩ (.slice (some ⟨gs, 0, none⟩) K sc)).setCell ⟨L.p, 3, none⟩ (.int .i64 ((min m.told s : Nat) : Int))) ρ' L' (cutM mj s K)) :=
              HB.out.cut (by rw [HTL.out]; exact hsl2) (by rw [HSL.out]; exact Nat.le_of_lt HLT.out) (by rw [HTL.out]; exact HTS.out) (by rw [HSL.out]; exact HSS.out)
            have HBK : Hid (BkI m s TL mj) := by have := HB.out.i; rw [hje] at this; exact this
            have htold : m.told ≤ 4000 := by have := HI.out.w.told; rw [HTL.out] at this; omega
            have hKsl : K ≤ SL := by have := HLT.out; omega
            have hssc : SL ≤ sc := by
              obtain ⟨a', c', e', h5, _⟩ := ro_shape (HM.out.at' .st)
              rw [HSS.out] at e'
              injection e' with _ _ e3
              rw [List.length_map, HSL.out] at h5
              omega
            have hKsc : K ≤ sc := by omega
            have hstc : s ≤ tc := by omega
            have i1 : (0 : Int) ≤ (K : Int) := by omega
            have i2 : (K : Int) ≤ (SL : Int) := by omega
            have i3 : (K : Int) ≤ (sc : Int) := by omega
            have i4 : (s : Int) ≤ (tc : Int) := by omega
            clear hB hrow c0 hje hjl c2 c4 x4
            obtain ⟨T, hT⟩ : ∃ T, m.told = T := ⟨_, rfl⟩
            rw [hT] at c3' htold HFIN
            have HT := Lib.hid hT
            clear hT
            have HEND : Hid (∀ W, (∃ ρ' L', Chr ρ wc ρ' W ∧ L'.p = L.p ∧ L'.cb = L.cb ∧ MA W ρ' L' (cutM mj s K)) → BackR wc ρ L m k W.drew) := fun W ⟨ρ', L', e1, e2, e3, e4⟩ => .inr ⟨by rw [HK.out, HSL.out]; exact HLT.out, ρ', L', mj, e1.trans (Chr.of_below (Below.refl _ _).drew), e2, e3, by rw [HK.out, HS.out]; exact e4.below (Below.refl _ _).drew, by rw [HK.out, HS.out, HTL.out]; exact HBK.out⟩
            rcases Nat.lt_trichotomy T s with q | q | q
            · have hmn : Hid (min T s = T) := Nat.min_eq_left (Nat.le_of_lt q)
              rw [hmn.out] at HFIN
              have q1 : (T : Int) < (s : Int) := by omega
              have q2 : ¬ (s : Int) < (T : Int) := by omega
              have q3 : ¬ s < T := by omega
              go_wp2_with fail
              go_region
              go_wp2_with fail
              (try simp only [Exit.inBlock, Exit.then])
              refine bodyPost_end (results_none rfl _ _ _) rfl ?_
              exact ⟨rfl, HEND.out _ HFIN.out⟩
            · subst q
              have hmn : Hid (min T T = T) := Nat.min_self _
              rw [hmn.out] at HFIN
              go_wp2_with fail
              go_region
              go_wp2_with fail
              (try simp only [Exit.inBlock, Exit.then])
              refine bodyPost_end (results_none rfl _ _ _) rfl ?_
              exact ⟨rfl, HEND.out _ HFIN.out⟩
            · have hmn : Hid (min T s = s) := Nat.min_eq_right (Nat.le_of_lt q)
              rw [hmn.out] at HFIN
              have q1 : (s : Int) < (T : Int) := by omega
              have q2 : ¬ (T : Int) < (s : Int) := by omega
              have q3 : ¬ T < s := by omega
              go_wp2_with fail
              go_region
              go_wp2_with fail
              (try simp only [Exit.inBlock, Exit.then])
              refine bodyPost_end (results_none rfl _ _ _) rfl ?_
              exact ⟨rfl, HEND.out _ HFIN.out⟩
    exact step.out
  · have hge : m.st.length ≤ K := by omega
    have HE : Hid (BackR w ρ L m k w) := .inl ⟨by rw [hK]; exact hge, rfl⟩
    have hd1 : (m.st.length : Int) ≤ (K : Int) := by omega
    clear h hI hK hlt
    generalize m.st.length = SL at *
    go_enter Try.func17, Try.ntmps17
    go_upto_region 0 with fail
    go_cut [1] (fun u W => u = .int .i64 (K : Int) ∧ W = w)
    case first =>
      rcases hmx with ⟨e, e2⟩ | ⟨e, e2⟩ | ⟨e, e2⟩
      · have HK0 := Lib.hid (show K = 0 by omega)
        have e3 : ¬ (0 : Int) < k := by omega
        clear e hkk hd1
        go_wp2_with fail
        go_meet
        exact ⟨by rw [HK0.out]; rfl, rfl⟩
      · have e3 : ¬ k < 0 := by omega
        go_wp2_with fail
        go_meet
        exact ⟨by first | rfl | rw [e], rfl⟩
      · subst e
        subst e2
        go_wp2_with fail
        go_meet
        exact ⟨rfl, rfl⟩
    case rest =>
      obtain ⟨rfl, rfl⟩ := hcut
      clear hmx hkk
      go_wp2_with fail
      refine HLV.out.mono ?_
      rintro e w1 ⟨rfl, rfl⟩
      go_wp2_with fail
      refine bodyPost_ret (results_none rfl _ _ _) rfl ?_
      exact ⟨rfl, HE.out⟩

end
end Go.Proofs.Ytjlmooimdogmjaa
