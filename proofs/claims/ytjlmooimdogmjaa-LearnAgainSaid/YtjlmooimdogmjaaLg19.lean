/- The contract of prop's Propagate, of the state in memory. Conditions: the prop lies in memory as 'MA' says, at rest. -/
import Derived.Test.YtjlmooimdogmjaaLg18
import Derived.Deep.LoopGhost
set_option linter.unusedVariables false
set_option linter.unusedSimpArgs false
namespace Go.Proofs.Ytjlmooimdogmjaa
open Go.RowKit

/-- A prop at rest in memory, grown out of another. -/
structure PrpS (w : World) (ρ : Nat → Option Rl) (L : Lay) (m : Mc) (wr : World) (ρ1 : Nat → Option Rl) (L1 : Lay) (m1 : Mc) : Prop where
  chr : Chr ρ w ρ1 wr
  p : L1.p = L.p
  cb : L1.cb = L.cb
  ma : MA wr ρ1 L1 m1
  i : McI m1
  x : McX m m1
/-- What Propagate answers, and leaves. -/
def PrpE (w : World) (ρ : Nat → Option Rl) (L : Lay) (m : Mc) (r : Int) (wr : World) : Prop := ∃ ρ1 L1 m1, PrpS w ρ L m wr ρ1 L1 m1 ∧ ((r = -1 ∧ m1.told = m1.tr.length ∧ m1.td = []) ∨ ∃ (k : Nat) (c : List Int), r = (k : Int) ∧ m1.cl k = some c ∧ ∀ l ∈ c, -l ∈ m1.tr)
section
variable {w wr : World} {ρ ρ1 : Nat → Option Rl} {L L1 : Lay} {m m1 : Mc}
theorem PrpS.refl (h : MA w ρ L m) (hI : McI m) : PrpS w ρ L m w ρ L m := ⟨Chr.refl _ _, rfl, rfl, h, hI, McX.refl _⟩
theorem PrpS.drewN (h : PrpS w ρ L m wr ρ1 L1 m1) (t : Nat) : PrpS w ρ L m (wr.drewN t) ρ1 L1 m1 := { h with chr := h.chr.drewN t, ma := h.ma.drewN t }
theorem PrpS.ptr (h : PrpS w ρ L m wr ρ1 L1 m1) (i : Nat) : ptrC L1 i = .pointer (some ⟨L.cb i, 0, none⟩) := by unfold ptrC; rw [h.cb]
/-- One literal more has told. -/
theorem PrpS.tell (h : PrpS w ρ L m wr ρ1 L1 m1) (ht : m1.told < m1.tr.length) (hnx : m.nx ≤ 1000000) (t : Nat) :
    Calls Try.prog 46 #[.pointer (some ⟨L.p, 0, none⟩), .int .i64 (-(m1.tr.getD m1.told 0))] ((wr.setCell ⟨L.p, 3, none⟩ (.int .i64 ((m1.told + 1 : Nat) : Int))).drewN t) fun e w' => ∃ v wrong, e = .returned v ∧ ∃ ρ2 L2 m2, PrpS w ρ L m w' ρ2 L2 m2 ∧ m2.told = m1.told + 1 ∧ m2.td = m1.td ++ wrong ∧ w'.ownsRow 0 68 1 v wrong.length (wrong.map (ptrC L2)) ∧ ∀ i ∈ wrong, ∃ c, m2.cl i = some c ∧ ∀ l ∈ c, -l ∈ m2.tr := by
  have h1 := h.ma.setTold (m1.told + 1)
  rw [h.p] at h1
  have h2 := h1.drewN t
  have hT := TI.start h.i ht
  have := mtell_any h2 hT (by show m1.nx ≤ _; rw [h.x.nx]; exact hnx)
  unfold ptrP at this
  rw [h.p] at this
  refine this.mono ?_
  rintro e w' ⟨v, wrong, he, ρ2, L2, m2, hC, hE, hM, hI2, hX, hloc, htd, htold, hf⟩
  have hc0 : Chr ρ w ρ1 ((wr.setCell ⟨L.p, 3, none⟩ (.int .i64 ((m1.told + 1 : Nat) : Int))).drewN t) := (h.chr.setCell (by rw [← h.p]; exact h.ma.rp) _).drewN t
  refine ⟨v, wrong, he, ρ2, L2, m2, ⟨hc0.trans hC, hE.p.trans h.p, hE.cb.trans h.cb, hM, hI2, ?_⟩, htold, htd, ?_, hf⟩
  · exact h.x.trans ((McX.of (m := m1) (m' := { m1 with told := m1.told + 1 }) rfl rfl rfl rfl rfl rfl rfl).trans hX)
  · have e1 : ptrC L2 = ptrC L1 := funext fun i => hE.ptr i
    rw [e1]; exact hloc.1

/-- What the call of tell leaves. -/
def TelP (w : World) (ρ : Nat → Option Rl) (L : Lay) (m : Mc) (T : Nat) (td : List Nat) (v : Value) (w' : World) : Prop := ∃ wrong ρ2 L2 m2, PrpS w ρ L m w' ρ2 L2 m2 ∧ m2.told = T ∧ m2.td = td ++ wrong ∧ w'.ownsRow 0 68 1 v wrong.length (wrong.map (ptrC L2)) ∧ ∀ i ∈ wrong, ∃ c, m2.cl i = some c ∧ ∀ l ∈ c, -l ∈ m2.tr
theorem TelP.shape {T : Nat} {td : List Nat} {v : Value} (h : TelP w ρ L m T td v wr) : ∃ a n c, v = .slice a n c := by
  obtain ⟨_, _, _, _, _, _, _, ho, _⟩ := h
  obtain ⟨a, c, e, _⟩ := own_shape ho
  exact ⟨a, _, c, e⟩
/-- What the call of settle leaves, and the store behind it. -/
def SetQ (w : World) (ρ : Nat → Option Rl) (L : Lay) (m : Mc) (T : Nat) (td' : List Nat) (i : Nat) (b : Bool) (W : World) : Prop :=
  (b = false ∧ PrpE w ρ L m (i : Int) W ∧ W.cell? ⟨L.cb i, 0, none⟩ = some (.int .i64 (i : Int))) ∨
  (b = true ∧ ∃ g cap, W.cell? ⟨L.p, 7, none⟩ = some (.slice (some ⟨g, 0, none⟩) (td'.length + 1) cap) ∧ W.ownsRow 0 68 1 (.slice (some ⟨g, 0, none⟩) (td'.length + 1) cap) (td'.length + 1) ((td' ++ [i]).map fun y => Value.pointer (some ⟨L.cb y, 0, none⟩)) ∧
    ∀ W2, Only g W W2 → W2.ownsRow 0 68 1 (.slice (some ⟨g, 0, none⟩) td'.length cap) td'.length (td'.map fun y => Value.pointer (some ⟨L.cb y, 0, none⟩)) → W2.cell? ⟨L.p, 7, none⟩ = some (.slice (some ⟨g, 0, none⟩) (td'.length + 1) cap) ∧ W2.frozen? ⟨L.p, 7, none⟩ = false ∧ L.p < W2.heap.size ∧
      ∃ ρ5 L5 m5, PrpS w ρ L m (W2.setCell ⟨L.p, 7, none⟩ (.slice (some ⟨g, 0, none⟩) td'.length cap)) ρ5 L5 m5 ∧ m5.told = T ∧ m5.td = td')
theorem PrpS.settle (h : PrpS w ρ L m wr ρ1 L1 m1) (ht : m1.told = m1.tr.length) {td' : List Nat} {i : Nat} (htd : m1.td = td' ++ [i]) (hnx : m.nx ≤ 1000000) :
    Calls Try.prog 47 #[.pointer (some ⟨L.p, 0, none⟩), .pointer (some ⟨L.cb i, 0, none⟩)] wr fun e w' => ∃ b, e = .returned (.bool b) ∧ SetQ w ρ L m m1.told td' i b w' := by
  have hi : i ∈ m1.td := by rw [htd]; simp
  obtain ⟨_, c, hc⟩ := h.i.l.tdF i hi
  have hw := h.i.w
  obtain ⟨l1, l2, _⟩ := lst_len hw h.i.l
  have e1 : m1.nx = m.nx := h.x.nx
  have htr := hw.tr_len
  have hst := hw.st_len
  have hn := hw.n
  have hs := mset2_any h.ma i c hc (hw.cl_lit hc).1 (hw.cl_one hc) hn (by omega) (by omega) (hw.cl_lit hc).2 (fun j => by have := l1 j; omega) (fun j => by have := l2 j; omega)
  unfold ptrP at hs
  rw [h.p, h.ptr] at hs
  refine hs.mono ?_
  rintro e w' ⟨b, he, c2, ⟨hp, hb0, hb1⟩, m', hP, ρ4, hC4, L4, hp4, hcb4, hM4⟩
  refine ⟨b, he, ?_⟩
  obtain ⟨hX, htold, htd4, hres⟩ := h.i.settle ht htd hc hp hb0 hb1 hP
  have hpL : L4.p = L.p := hp4.trans h.p
  have hcL : L4.cb = L.cb := hcb4.trans h.cb
  rcases hres with ⟨hb, hI4, d, hd, hf⟩ | ⟨hb, hI4⟩
  · refine .inl ⟨hb, ⟨ρ4, L4, m', ⟨h.chr.trans hC4, hpL, hcL, hM4, hI4, h.x.trans hX⟩, .inr ⟨i, d, rfl, hd, hf⟩⟩, ?_⟩
    have := (hM4.cells hd).1
    rwa [hcL] at this
  · right
    have hpf : ptrC L4 = fun y => Value.pointer (some ⟨L.cb y, 0, none⟩) := funext fun y => by unfold ptrC; rw [hcL]
    have hrow := hM4.own_td
    rw [htd4, htd] at hrow
    have hlen : (td' ++ [i]).length = td'.length + 1 := by rw [List.length_append]; rfl
    rw [hlen] at hrow
    obtain ⟨g, cap, e⟩ := own_at hrow (by omega)
    have c7 := hM4.pc.c7
    rw [e, hpL] at c7
    rw [e] at hrow
    refine ⟨hb, g, cap, c7, by rw [← hpf]; exact hrow, fun W2 hO hrow2 => ?_⟩
    rw [← hpf] at hrow2
    have hap : App 0 w' W2 L4.tdv (.slice (some ⟨g, 0, none⟩) td'.length cap) := by rw [e]; exact app_of_only hO
    obtain ⟨ρ5, hM5, hC5, k7, f7⟩ := hM4.tdApp hap hrow2
    rw [e, hpL] at k7
    rw [hpL] at hM5 hC5 f7
    refine ⟨k7, f7, Nat.lt_of_lt_of_le (by rw [← hpL]; exact hM4.lt _ _ hM4.rp) hO.size, ρ5, _, { m' with td := td' }, ⟨(h.chr.trans hC4).trans hC5, ?_, ?_, hM5, hI4, ?_⟩, htold, rfl⟩
    · rfl
    · exact hcL
    · have h2 : McX m' { m' with td := td' } := McX.of rfl rfl rfl rfl rfl rfl rfl
      exact (h.x.trans hX).trans h2
theorem erase_last {α : Type} (xs : List α) (x : α) : (xs ++ [x]).eraseIdx xs.length = xs := by
  rw [List.eraseIdx_eq_take_drop_succ]; simp

set_option maxRecDepth 8000 in
set_option maxHeartbeats 16000000 in
theorem mprp_any (h : MA w ρ L m) (hI : McI m) (hnx : m.nx ≤ 1000000) :
    Calls Try.prog 19 #[ptrP L] w fun e w' => ∃ x : Int, e = .returned (.int .i64 x) ∧ PrpE w ρ L m x w' := by
  have HS0 := Lib.hid (PrpS.refl h hI)
  have HB0 : Hid (m.told ≤ m.n) := Nat.le_trans hI.w.told hI.w.tr_len
  clear h hI
  unfold ptrP
  go_enter Try.func19, Try.ntmps19
  go_wp2_with fail
  go_loopg [3, 4, 5] ((m.n - m.told) + m.td.length) (fun gh _ _ _ wr => ∃ (ρ1 : Nat → Option Rl) (L1 : Lay) (m1 : Mc), PrpS w ρ L m wr ρ1 L1 m1 ∧ gh = (m.n - m1.told) + m1.td.length)
  case atStart => exact ⟨ρ, L, m, HS0.out, rfl⟩
  case round =>
    obtain ⟨ρ1, L1, m1, hS, rfl⟩ := hrel
    have HS1 := Lib.hid hS
    clear hS
    go_wp2_with fail
    go_loopg [3] (m.n - m1.told) (fun gh2 _ wr2 => ∃ (ρ2 : Nat → Option Rl) (L2 : Lay) (m2 : Mc), PrpS w ρ L m wr2 ρ2 L2 m2 ∧ m2.td = m1.td ∧ m1.told ≤ m2.told ∧ gh2 = m.n - m2.told)
    case atStart => exact ⟨ρ1, L1, m1, HS1.out, rfl, Nat.le_refl _, rfl⟩
    case round =>
      obtain ⟨ρ2, L2, m2, hS, htd, hto, rfl⟩ := hrel
      have HS2 := Lib.hid hS
      have HTD := Lib.hid htd
      have c3 := hS.ma.pc.c3
      have c2 := hS.ma.pc.c2
      obtain ⟨ta, tc, hts, _, _⟩ := ro_shape (hS.ma.at' .tr)
      rw [List.length_map] at hts
      rw [hts] at c2
      rw [hS.p] at c2 c3
      have htl : m2.told ≤ m2.tr.length := hS.i.w.told
      have htn : m2.tr.length ≤ 4000 := Nat.le_trans hS.i.w.tr_len hS.i.w.n
      have htn2 : m2.tr.length ≤ m.n := by have := hS.i.w.tr_len; rw [hS.x.n] at this; exact this
      have HTN := Lib.hid htn2
      have HTO := Lib.hid hto
      have HTS := Lib.hid hts
      clear hS htd htn2 hto hts
      by_cases hlt : m2.told < m2.tr.length
      · have HLT := Lib.hid hlt
        have HTE : Hid (∀ q t, Calls Try.prog 46 #[.pointer (some ⟨L.p, 0, none⟩), .int .i64 (-(m2.tr.getD m2.told 0))] (((wr.drewN q).setCell ⟨L.p, 3, none⟩ (.int .i64 ((m2.told : Int) + 1))).drewN t) fun e w' => ∃ v, e = .returned v ∧ TelP w ρ L m (m2.told + 1) m1.td v w') := fun q t => by
          refine ((HS2.out.drewN q).tell hlt hnx t).mono ?_
          rintro e w' ⟨v, wrong, he, ρ3, L3, m3, h1, h2, h3, h4, h5⟩
          exact ⟨v, he, wrong, ρ3, L3, m3, h1, h2, by rw [h3, HTD.out], h4, h5⟩
        have hel : Hid (∃ g, ta = some ⟨g, 0, none⟩ ∧ wr.cell? ⟨g, m2.told, none⟩ = some (.int .i64 (m2.tr.getD m2.told 0)) ∧ g ≠ L.p) := by
          have hrow := (HS2.out.ma.at' .tr).1
          rw [List.length_map, HTS.out] at hrow
          obtain ⟨g, cap, e⟩ := own_at hrow (by omega)
          injection e with e1 _ e3
          subst e1; subst e3
          refine ⟨g, rfl, own_cell hrow (by rw [List.getElem?_map]; simp [List.getD, hlt]), fun e => ?_⟩
          have h1 := (HS2.out.ma.at' .tr).2 g (by rw [HTS.out]; rfl)
          have h2 := HS2.out.ma.rp
          rw [HS2.out.p, ← e, h1] at h2
          cases h2
        obtain ⟨g, rfl, hg1, hg2⟩ := hel.out
        have hplc : -4000 ≤ m2.tr.getD m2.told 0 ∧ m2.tr.getD m2.told 0 ≤ 4000 := lit_bd (HS2.out.i.w.rgt (getD_mem' hlt)).2 HS2.out.i.w.n
        obtain ⟨hpl1, hpl2⟩ := hplc
        have f3 := HS2.out.ma.pc.fr 3
        rw [HS2.out.p] at f3
        have hlp := HS2.out.ma.lt _ _ HS2.out.ma.rp
        rw [HS2.out.p] at hlp
        generalize hz : m2.tr.getD m2.told 0 = z at *
        have HZ := Lib.hid hz
        clear hz hel
        generalize hT : m2.told = T at *
        have HT := Lib.hid hT
        generalize hLn : m2.tr.length = Ln at *
        have HLn := Lib.hid hLn
        clear hT hLn
        go_wp2_with fail
        go_quiet (fail)
        go_upto_region 3 with fail
        have k3 : ((wr.drewN nq).setCell ⟨L.p, 3, none⟩ (.int .i64 ((T : Int) + 1))).cell? ⟨L.p, 3, none⟩ = some (.int .i64 ((T : Int) + 1)) := set_at (W := wr.drewN nq) c3
        have k2 : ((wr.drewN nq).setCell ⟨L.p, 3, none⟩ (.int .i64 ((T : Int) + 1))).cell? ⟨L.p, 2, none⟩ = some (.slice (some ⟨g, 0, none⟩) Ln tc) := (set_off (W := wr.drewN nq) (.inr (by decide))).trans c2
        have kg : ((wr.drewN nq).setCell ⟨L.p, 3, none⟩ (.int .i64 ((T : Int) + 1))).cell? ⟨g, T, none⟩ = some (.int .i64 z) := (set_off (W := wr.drewN nq) (.inl (fun e => hg2 e.symm))).trans hg1
        have HTQ := Lib.hid (HTE.out nq)
        generalize (wr.drewN nq).setCell ⟨L.p, 3, none⟩ (.int .i64 ((T : Int) + 1)) = W3 at *
        clear c2 c3 hg1 f3 hlp HTE
        go_cut [3] (fun v W => TelP w ρ L m (T + 1) m1.td v W)
        case first =>
          have hw1 : IntKind.i64.wrap (T : Int) = (T : Int) := IntWalk.i64_in _ (by omega)
          have hw2 : IntKind.i64.wrap ((T : Int) + 1) = (T : Int) + 1 := IntWalk.i64_in _ (by omega)
          have hw3 : IntKind.i64.wrap (-z) = -z := IntWalk.i64_in _ (by omega)
          have hi0 : (0 : Int) ≤ (T : Int) := by omega
          have hi1 : (T : Int) < (Ln : Int) := by omega
          go_region_with (refine (HTQ.out _).mono ?_; rintro e w5 ⟨v5, rfl, hR5⟩; obtain ⟨a5, n5, c5, rfl⟩ := hR5.shape; have HR5 := Lib.hid hR5; clear hR5)
          all_goals (go_wp2_with fail; go_meet; exact HR5.out)
        case rest =>
          obtain ⟨wrong, ρ3, L3, m3, hS3, ht3, htd3, ho3, hf3⟩ := hcut
          cases wrong with
          | nil =>
            obtain ⟨a5, c5, rfl, _⟩ := own_shape ho3
            have hz0 : ([] : List Nat).length = 0 := rfl
            rw [hz0]
            have HS3 := Lib.hid hS3
            have HT3 := Lib.hid ht3
            have HD3 : Hid (m3.td = m1.td) := by unfold Hid; rw [htd3, List.append_nil]
            have hto : m1.told ≤ T + 1 := by have := HTO.out; omega
            have hms : m.n - (T + 1) < m.n - T := by have := HTN.out; omega
            clear hS3 ht3 htd3 ho3 hf3 hz0
            go_wp2_with fail
            go_roundg (m.n - (T + 1))
            case rel => exact ⟨ρ3, L3, m3, HS3.out, HD3.out, by rw [HT3.out]; exact hto, by rw [HT3.out]⟩
            case measure => exact hms
          | cons i ws =>
            obtain ⟨g5, c5, rfl⟩ := own_at ho3 (by simp)
            have x5 := own_cell ho3 (i := 0) (u := ptrC L3 i) rfl
            rw [hS3.ptr] at x5
            obtain ⟨c, hc, hf⟩ := hf3 i (by simp)
            have x6 := (hS3.ma.cells hc).1
            rw [hS3.cb] at x6
            have HE : Hid (PrpE w ρ L m (i : Int) wc) := ⟨ρ3, L3, m3, hS3, .inr ⟨i, c, rfl, hc, hf⟩⟩
            have hln : (i :: ws).length = ws.length + 1 := rfl
            rw [hln]
            clear hS3 ht3 htd3 ho3 hf3 hc hf hln
            generalize ws.length = N5 at *
            go_wp2_with fail
            go_ret
            exact ⟨_, rfl, HE.out⟩
      · have hTL : m2.told = m2.tr.length := by omega
        have HTL := Lib.hid hTL
        have hd : ¬ m2.told < m2.tr.length := hlt
        have c7 := HS2.out.ma.pc.c7
        obtain ⟨da, dc, hds, hd1, hd2⟩ := own_shape HS2.out.ma.own_td
        rw [hds, HTD.out, HS2.out.p] at c7
        have hrow := HS2.out.ma.own_td
        rw [hds, HTD.out] at hrow
        have HROW := Lib.hid hrow
        have HDS := Lib.hid hds
        have htn' : m2.told ≤ 4000 := by omega
        clear hTL hrow hds
        generalize hT : m2.told = T at *
        have HT := Lib.hid hT
        generalize hLn : m2.tr.length = Ln at *
        have HLn := Lib.hid hLn
        clear hT hLn
        have hdI : decide ((T : Int) < (Ln : Int)) = false := decide_eq_false (by omega)
        have htdl : m1.td.length ≤ 1000000 := by
          have h1 := (lst_len HS2.out.i.w HS2.out.i.l).2.2
          rw [HTD.out, HS2.out.x.nx] at h1
          omega
        rcases List.eq_nil_or_concat m1.td with htd | ⟨td', i, htd⟩
        · rw [htd] at c7
          have hz0 : ([] : List Nat).length = 0 := rfl
          rw [hz0] at c7
          have HE : Hid (∀ t, PrpE w ρ L m (-1) (wr.drewN t)) := fun t => ⟨ρ2, L2, m2, HS2.out.drewN t, .inl ⟨rfl, by rw [HT.out, HLn.out]; omega, by rw [HTD.out]; exact htd⟩⟩
          clear hz0 HDS HROW hd1 hd2 htd htdl
          go_wp2_with fail
          go_quiet (fail)
          go_wp2_with fail
          go_ret
          exact ⟨_, rfl, HE.out _⟩
        · rw [List.concat_eq_append] at htd
          have HSE : Hid (∀ t, Calls Try.prog 47 #[.pointer (some ⟨L.p, 0, none⟩), .pointer (some ⟨L.cb i, 0, none⟩)] (wr.drewN t) fun e w' => ∃ b, e = .returned (.bool b) ∧ SetQ w ρ L m T td' i b w') := fun t => by
            have := (HS2.out.drewN t).settle (td' := td') (i := i) (by rw [HT.out, HLn.out]; omega) (by rw [HTD.out]; exact htd) hnx
            rw [HT.out] at this
            exact this
          have hlen : (td' ++ [i]).length = td'.length + 1 := by rw [List.length_append]; rfl
          have hro := HROW.out
          rw [htd, hlen] at hro
          rw [htd, hlen] at c7
          obtain ⟨g, cap, e⟩ := own_at hro (by omega)
          injection e with e1 _ e3
          subst e1; subst e3
          have x7 := own_cell hro (i := td'.length) (u := ptrC L2 i) (by rw [List.getElem?_map]; simp)
          rw [HS2.out.ptr] at x7
          have hql : td'.length ≤ 1000000 := by rw [htd, hlen] at htdl; omega
          have HML : Hid ((m.n - T) + td'.length < (m.n - m1.told) + m1.td.length) := by
            unfold Hid
            rw [htd, hlen]
            have := HTO.out
            omega
          clear hro hlen htd htdl HROW HDS hd1 hd2
          generalize hq : td'.length = q at *
          have HQ := Lib.hid hq
          clear hq
          have hk1 : decide ((0 : Int) ≤ (q : Int)) = true := decide_eq_true (by omega)
          have hk2 : ¬ (q : Int) < 0 := by omega
          go_wp2_with fail
          go_quiet (fail)
          go_wp2_with fail
          refine (HSE.out _).mono ?_
          rintro e w5 ⟨b, rfl, hQ⟩
          cases b with
          | false =>
            have hQ2 : PrpE w ρ L m (i : Int) w5 ∧ w5.cell? ⟨L.cb i, 0, none⟩ = some (.int .i64 (i : Int)) := by
              rcases hQ with ⟨_, h⟩ | ⟨h, _⟩
              · exact h
              · cases h
            obtain ⟨hE, x8⟩ := hQ2
            have HE := Lib.hid hE
            clear hE hQ
            go_wp2_with fail
            go_ret
            exact ⟨_, rfl, HE.out⟩
          | true =>
            rcases hQ with ⟨h, _⟩ | ⟨_, g6, cap6, c8, hro6, hfin⟩
            · cases h
            rw [HQ.out] at c8 hro6 hfin
            have HD := Lib.hid (mdelete_any g6 (q + 1) cap6 _ q hro6 (fun u hu => by obtain ⟨y, _, rfl⟩ := List.mem_map.1 hu; rfl) (by omega))
            have HFIN := Lib.hid hfin
            have HER : Hid (((td' ++ [i]).map fun y => Value.pointer (some ⟨L.cb y, 0, none⟩)).eraseIdx q = td'.map fun y => Value.pointer (some ⟨L.cb y, 0, none⟩)) := by
              unfold Hid
              rw [← HQ.out, List.map_append, List.map_cons, List.map_nil]
              have := erase_last (td'.map fun y => Value.pointer (some ⟨L.cb y, 0, none⟩)) (.pointer (some ⟨L.cb i, 0, none⟩))
              rwa [List.length_map] at this
            rw [HER.out] at HD
            clear hro6 hfin c7 x7
            go_wp2_with fail
            refine HD.out.mono ?_
            rintro e w6 ⟨rfl, ho6, hO6⟩
            rw [show q + 1 - 1 = q from rfl] at *
            obtain ⟨k7, f7, hlp, ρ5, L5, m5, hS5, ht5, htd5⟩ := HFIN.out w6 hO6 ho6
            have HS5 := Lib.hid hS5
            have HG : Hid ((m.n - T) + q = (m.n - m5.told) + m5.td.length) := by unfold Hid; rw [ht5, htd5, HQ.out]
            clear ho6 hO6 hS5 ht5 htd5
            go_wp2_with fail
            go_roundg ((m.n - T) + q)
            case rel => exact ⟨ρ5, L5, m5, HS5.out, HG.out⟩
            case measure => exact HML.out

end
end Go.Proofs.Ytjlmooimdogmjaa
