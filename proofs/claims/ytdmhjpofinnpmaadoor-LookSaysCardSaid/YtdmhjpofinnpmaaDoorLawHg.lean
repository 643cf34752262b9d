/- The law LookHangs: true for whatever arguments. Conditions: the slice and the numbers read as 64-bit ints; the two errors lie as 'Sents2' says. -/
import Derived.Test.YtdmhjpofinnpmaaDoorLawDp
import Derived.Test.YtdmhjpofinnpmaaDoorLkI
import Derived.Test.YtdmhjpofinnpmaaDoorGsV
import Derived.Deep.DeepCutAuto
import Derived.Deep.QuietTactic
import Derived.BigQuiet
namespace Go.Proofs.YtdmhjpofinnpmaaDoor
open Go.RowKit

/-- Pairs of the call's own at block q. -/
structure PCel (W : World) (q : Nat) (ps : List (Int × Int)) : Prop where
  sq : q < W.heap.size
  c0 : ∀ i, i < ps.length → W.cell? ⟨q, i * 2, none⟩ = some (.int .i64 (ps.getD i (0, 0)).1)
  c1 : ∀ i, i < ps.length → W.cell? ⟨q, i * 2 + 1, none⟩ = some (.int .i64 (ps.getD i (0, 0)).2)
  fr : ∀ i, W.frozen? ⟨q, i, none⟩ = false
theorem PCel.set1 {W : World} {q : Nat} {ps : List (Int × Int)} (h : PCel W q ps) (m : Nat) (hm : m < ps.length) : PCel ((W.setCell ⟨q, m * 2, none⟩ (.int .i64 1)).setCell ⟨q, m * 2 + 1, none⟩ (.int .i64 1)) q (ps.set m (1, 1)) where
  sq := by simpa using h.sq
  c0 := fun i hi => by
    rw [List.length_set] at hi
    rw [set_off (.inr (by omega)), getD_setG]
    by_cases e : m = i
    · subst e; rw [if_pos ⟨rfl, hi⟩]; exact set_at (h.c0 m hm)
    · rw [if_neg (fun hh => e hh.1), set_off (.inr (by omega))]; exact h.c0 i hi
  c1 := fun i hi => by
    rw [List.length_set] at hi
    rw [getD_setG]
    by_cases e : m = i
    · subst e; rw [if_pos ⟨rfl, hi⟩]; exact set_at ((set_off (.inr (by omega))).trans (h.c1 m hm))
    · rw [if_neg (fun hh => e hh.1), set_off (.inr (by omega)), set_off (.inr (by omega))]; exact h.c1 i hi
  fr := fun i => ((World.frozen?_setCell _ _ _ _).trans (World.frozen?_setCell _ _ _ _)).trans (h.fr i)
theorem PCel.row {W : World} {q : Nat} {ps : List (Int × Int)} (h : PCel W q ps) (n c : Nat) (hn : ps.length = n) (h1 : n ≤ c) (h2 : c ≤ maxLen) : PRow W (.slice (some ⟨q, 0, none⟩) n c) ps := by
  subst hn
  exact ⟨_, _, rfl, h1, h2, .inr ⟨q, 0, rfl, h.sq, fun i hi => ⟨by rw [Nat.zero_add]; exact h.c0 i hi, by rw [Nat.zero_add]; exact h.c1 i hi⟩⟩⟩
theorem PCel.of_own {W : World} {B q n c : Nat} {E : TypeId} {ps : List (Int × Int)} (h : W.ownsRow B E 2 (.slice (some ⟨q, 0, none⟩) n c) n (ps.flatMap pcells)) : PCel W q ps := by
  have hl : ps.length = n := by have := h.1; rw [pflat_len] at this; omega
  have hget : ∀ i j u, i < ps.length → j < 2 → (pcells (ps.getD i (0, 0)))[j]? = some u → W.cell? ⟨q, i * 2 + j, none⟩ = some u := fun i j u hi hj hu => by
    have := h.cells (g := q) rfl (i * 2 + j) u (by rw [pflat_get ps i j hi hj]; exact hu)
    rwa [add0] at this
  refine ⟨(h.lt q rfl).2, fun i hi => by simpa using hget i 0 _ hi (by omega) rfl, fun i hi => by simpa using hget i 1 _ hi (by omega) rfl, fun i => ?_⟩
  rcases h.2 with ⟨e0, _⟩ | ⟨g, cap, cur, e0, _, hg, _⟩
  · cases e0
  · injection e0 with e0 _ _
    injection e0 with e0
    injection e0 with e0
    subst e0
    simp [World.frozen?, hg]
theorem PCel.keep {W W' : World} {q : Nat} {ps : List (Int × Int)} (h : PCel W q ps) (hb : Below W.heap.size W W') : PCel W' q ps where
  sq := Nat.lt_of_lt_of_le h.sq hb.size
  c0 := fun i hi => (hb.cell (p := ⟨q, i * 2, none⟩) h.sq).trans (h.c0 i hi)
  c1 := fun i hi => (hb.cell (p := ⟨q, i * 2 + 1, none⟩) h.sq).trans (h.c1 i hi)
  fr := fun i => (hb.frozen (p := ⟨q, i, none⟩) h.sq).trans (h.fr i)

theorem PCel.off {W : World} {q : Nat} {ps : List (Int × Int)} (h : PCel W q ps) {b i : Nat} (hb : b ≠ q) (v : Value) : PCel (W.setCell ⟨b, i, none⟩ v) q ps where
  sq := by simpa using h.sq
  c0 := fun j hj => (set_off (.inl hb)).trans (h.c0 j hj)
  c1 := fun j hj => (set_off (.inl hb)).trans (h.c1 j hj)
  fr := fun j => (World.frozen?_setCell _ _ _ _).trans (h.fr j)
theorem CV.set0 {W : World} {b : Nat} {n : Int} {u o : Value} (h : CV W b n u o) (n' : Int) : CV (W.setCell ⟨b, 0, none⟩ (.int .i64 n')) b n' u o where
  c0 := set_at h.c0
  c1 := (set_off (.inr (by decide))).trans h.c1
  c2 := (set_off (.inr (by decide))).trans h.c2
  fr := fun k => (World.frozen?_setCell _ _ _ _).trans (h.fr k)
  lt := by have := h.lt; simpa using this
theorem CV.off {W : World} {b : Nat} {n : Int} {u o : Value} (h : CV W b n u o) {b' i : Nat} (hb : b' ≠ b) (v : Value) : CV (W.setCell ⟨b', i, none⟩ v) b n u o where
  c0 := (set_off (.inl hb)).trans h.c0
  c1 := (set_off (.inl hb)).trans h.c1
  c2 := (set_off (.inl hb)).trans h.c2
  fr := fun k => (World.frozen?_setCell _ _ _ _).trans (h.fr k)
  lt := by have := h.lt; simpa using this
/-- A circuit built of a copy of the gates. -/
def DV (w13 : World) (n : Int) (ps : List (Int × Int)) (o : Value) (m : Nat) (bd : Nat) (aq : Option Addr) (cq : Nat) (W : World) : Prop :=
  CV W bd n (.slice aq m cq) o ∧ (m = 0 ∨ ∃ q, aq = some ⟨q, 0, none⟩ ∧ PCel W q ps ∧ q ≠ bd ∧ w13.heap.size ≤ q) ∧ m ≤ cq ∧ cq ≤ maxLen ∧ Below w13.heap.size w13 W ∧ w13.heap.size ≤ bd
theorem DV.of_own {wP : World} {B : Nat} {ps : List (Int × Int)} {m : Nat} {aP : Option Addr} {cP : Nat} (h : wP.ownsRow B 49 2 (.slice aP m cP) m (ps.flatMap pcells)) : (m = 0 ∨ ∃ q, aP = some ⟨q, 0, none⟩ ∧ PCel wP q ps ∧ B ≤ q ∧ q < wP.heap.size) ∧ m ≤ cP ∧ cP ≤ maxLen := by
  have hh := h
  rcases h.2 with ⟨e0, e1⟩ | ⟨g, cap, cur, e0, hb, hg, h1, h2, _⟩
  · injection e0 with _ _ e3
    exact ⟨.inl e1, by omega, by rw [e3]; unfold maxLen; omega⟩
  · injection e0 with e0 _ e3
    subst e0; subst e3
    exact ⟨.inr ⟨g, rfl, PCel.of_own hh, (hh.lt g rfl).1, (hh.lt g rfl).2⟩, h1, h2⟩

theorem DV.prow {w13 : World} {n : Int} {ps : List (Int × Int)} {o : Value} {m bd : Nat} {aq : Option Addr} {cq : Nat} {W : World} (h : DV w13 n ps o m bd aq cq W) (hl : ps.length = m) : PRow W (.slice aq m cq) ps := by
  obtain ⟨_, h1, h2, h3, _, _⟩ := h
  rcases h1 with h1 | ⟨q, rfl, hp, _, _⟩
  · exact ⟨aq, cq, by rw [hl], by omega, h3, .inl (by omega)⟩
  · exact hp.row m cq hl h2 h3
theorem DV.turn {w13 : World} {n : Int} {ps : List (Int × Int)} {o : Value} {m bd q cq : Nat} {W : World} (h : DV w13 n ps o m bd (some ⟨q, 0, none⟩) cq W) (j : Nat) (hj : j < ps.length) (hl : ps.length = m) : DV w13 n (ps.set j (1, 1)) o m bd (some ⟨q, 0, none⟩) cq ((W.setCell ⟨q, j * 2, none⟩ (.int .i64 1)).setCell ⟨q, j * 2 + 1, none⟩ (.int .i64 1)) := by
  obtain ⟨hc, h1, h2, h3, h4, h5⟩ := h
  rcases h1 with h1 | ⟨q', e, hp, hq, hq2⟩
  · omega
  · injection e with e
    injection e with e
    subst e
    exact ⟨(hc.off hq _).off hq _, .inr ⟨q, rfl, hp.set1 j hj, hq, hq2⟩, h2, h3, (h4.setCell hq2 _).setCell hq2 _, h5⟩

set_option maxRecDepth 8000 in
set_option maxHeartbeats 8000000 in
theorem lawHg_any (A : Nat → Addr) (a2 : Option Addr) (c2 : Nat) (ls : List Int) (lit n k : Int) (w : World) (hS : Sents2 w A) (hl : RowAt w a2 c2 ls) (hlb : ∀ y ∈ ls, in64 y) (hlit : in64 lit) (hn : in64 n) (hk : in64 k) :
    Calls Tryd.prog 4 #[.slice a2 ls.length c2, .int .i64 lit, .int .i64 n, .int .i64 k] w fun e w' => e = .returned (.bool true) ∧ Below w.heap.size w w' := by
  have HF := Lib.hid (first10_any A w hS)
  by_cases hout : 80 < ls.length
  · have d1 : decide (80 < ls.length) = true := decide_eq_true hout
    clear hl hlb hS
    generalize ls.length = m at *
    go_enter Tryd.func4, Tryd.ntmps4
    go_wp2_with fail
    refine HF.out.mono ?_
    rintro e w1 ⟨rfl, hb1⟩
    go_wp2_with fail
    go_ret
    exact ⟨rfl, hb1⟩
  · have d1 : decide (80 < ls.length) = false := decide_eq_false hout
    have HS := Lib.hid (fun W (hW : Below w.heap.size w W) => hS.keep hW)
    have HMK := Lib.hid (fun W (hW : Below w.heap.size w W) => mkc_any 12 (.slice a2 ls.length c2) (.slice none 0 0) ls [] W ⟨_, _, rfl, hl.keep hW⟩ (Row.nil _) (by omega) (by omega) (by simp) hlb (by simp))
    have HVAL := Lib.hid (fun W => values_any n 12 W hn.1 hn.2 (by omega))
    have NK := Lib.hid (fun W => number_any k 12 W (by omega) (by omega) hk.1 hk.2)
    obtain ⟨K, hK⟩ : ∃ K : Nat, k % 12 = (K : Int) := ⟨(k % 12).toNat, by omega⟩
    have hK12 : K < 12 := by omega
    rw [hK] at NK
    have HL80 : Hid (ls.length ≤ 80) := by unfold Hid; omega
    clear hS hl hlb hn hK hk
    generalize ls.length = m2 at *
    go_enter Tryd.func4, Tryd.ntmps4
    go_wp2_with fail
    refine HF.out.mono ?_
    rintro e w1 ⟨rfl, hb1⟩
    have HM := Lib.hid (HMK.out _ hb1)
    have HB1 := Lib.hid hb1
    clear hb1 HF HMK
    rw [show ((12 : Nat) : Int) = 12 from rfl] at HM
    go_wp2_with fail
    refine HM.out.mono ?_
    rintro e w5 ⟨⟨u', v', ps', os', rfl, hu', hv', hck, hpl, hol, hpb, hob⟩, hb5⟩
    have HB5 := Lib.hid (HB1.out.trans (hb5.mono HB1.out.size))
    clear hb5 HM HB1
    have HU := Lib.hid (fun W (hW : Below w5.heap.size w5 W) => hu'.keep hW)
    have HCK := Lib.hid hck
    obtain ⟨hnm, hokp, hoko⟩ := check_zero8 hck
    have HOKP := Lib.hid hokp
    obtain ⟨au5, cu5, rfl, hu1, hu2, hu3⟩ := hu'
    obtain ⟨av5, cv5, rfl, _⟩ := hv'
    unfold maxLen at hu2
    have HC5 := Lib.hid (CV.new w5 (12 : Int) (.slice au5 ps'.length cu5) (.slice av5 os'.length cv5) 26)
    have HA5 : Hid (Below w5.heap.size w5 (w5.alloc (.cells #[.int .i64 12, .slice au5 ps'.length cu5, .slice av5 os'.length cv5] 26))) := (Below.refl _ _).alloc (Nat.le_refl _) _
    have hm80 : ps'.length ≤ 80 := Nat.le_trans hpl HL80.out
    have NL := Lib.hid (fun W => number_any lit (2 * (12 + (ps'.length : Int)) + 2) W (by omega) (by omega) hlit.1 hlit.2)
    have hl0 := Int.emod_nonneg lit (show 2 * (12 + (ps'.length : Int)) + 2 ≠ 0 by omega)
    have hl1 := Int.emod_lt_of_pos lit (show (0 : Int) < 2 * (12 + (ps'.length : Int)) + 2 by omega)
    generalize lit % (2 * (12 + (ps'.length : Int)) + 2) = l at *
    have HK1 := Lib.hid (check_outs (os' := [l]) hck (fun o ho => by rw [List.mem_singleton] at ho; subst ho; rw [okO_iff]; omega))
    have HLL : Hid ((l / 2).toNat ≤ 12 + ps'.length) := by unfold Hid; omega
    clear hck hokp hoko hpb hob hu3 hol
    unfold circV
    rw [show ((12 : Nat) : Int) = 12 from rfl]
    generalize os'.length = m6 at *
    generalize hm5 : ps'.length = m5 at *
    have HM5 := Lib.hid hm5
    clear hm5 hpl
    obtain ⟨z0, z1, z2, zf, zl⟩ := HC5.out
    go_wp2_with fail
    generalize hw6 : w5.alloc (.cells #[.int .i64 12, .slice au5 m5 cu5, .slice av5 m6 cv5] 26) = w6 at *
    refine (NL.out _).mono ?_
    rintro e w' ⟨rfl, rfl⟩
    clear NL hw6
    go_wp2_with fail
    refine (NK.out _).mono ?_
    rintro e w' ⟨rfl, rfl⟩
    clear NK
    have HQ7 := Lib.hid (cs_outs HC5.out HA5.out [l] 1 rfl (by omega))
    rw [show (([l].map (Value.int .i64)).toArray) = #[Value.int .i64 l] from rfl] at HQ7
    go_wp2_with fail
    generalize (w6.setCell ⟨w5.heap.size, 2, none⟩ (.slice (some ⟨w6.heap.size, 0, none⟩) 1 1)).alloc (.cells #[.int .i64 l] 3) = w7 at *
    clear z0 z1 z2 zf zl
    have HQ := Lib.hid (fun W (hW : Below w7.heap.size w7 W) => HQ7.out.keep hW)
    have HEV := Lib.hid (fun W (hW : Below w7.heap.size w7 W) q ins (hq : BRow W q ins) (hi : ins.length ≤ 1000) => leval_any A 12 (.slice au5 m5 cu5) (.slice (some ⟨w6.heap.size, 0, none⟩) 1 1) q ps' [l] ins W (HS.out W (HB5.out.trans ((HQ.out W hW).bel.mono HB5.out.size))) (HU.out W (HQ.out W hW).bel) (own_row (HQ.out W hW).own) (by simp) (check_in64 HK1.out) hq hi HK1.out)
    have HSU := Lib.hid (fun W (hW : Below w7.heap.size w7 W) => lsupp_any A 12 (.slice au5 m5 cu5) (.slice (some ⟨w6.heap.size, 0, none⟩) 1 1) ps' [l] l (l / 2).toNat W (HS.out W (HB5.out.trans ((HQ.out W hW).bel.mono HB5.out.size))) (HU.out W (HQ.out W hW).bel) (own_row (HQ.out W hW).own) (by simp) (check_in64 HK1.out) HK1.out hl0 (by omega) (by rw [HM5.out]; exact HLL.out))
    have HCO := Lib.hid (fun W (hW : Below w7.heap.size w7 W) => lcone_any A 12 (.slice au5 m5 cu5) (.slice (some ⟨w6.heap.size, 0, none⟩) 1 1) ps' [l] l (l / 2).toNat W (HS.out W (HB5.out.trans ((HQ.out W hW).bel.mono HB5.out.size))) (HU.out W (HQ.out W hW).bel) (own_row (HQ.out W hW).own) (by simp) (check_in64 HK1.out) HK1.out hl0 (by omega) (by rw [HM5.out]; exact HLL.out))
    unfold circV at HEV HSU HCO
    rw [show ((12 : Nat) : Int) = 12 from rfl] at HEV HSU HCO
    refine (HVAL.out _).mono ?_
    rintro e w8 ⟨zv, ins, rfl, hz, hb8⟩
    have hil : ins.length = 12 := by have := hz.1; simpa using this
    obtain ⟨gi, ci, rfl, hgi, hgl, hci1, hci2⟩ := own_some hz (by omega)
    have HCI := Lib.hid (CelG.of_own (mk := Value.bool) (d := false) hz)
    have HB8 := Lib.hid hb8
    have HE8 := Lib.hid (HEV.out _ hb8 _ ins (own_rowG (mk := Value.bool) (d := false) hz) (by omega))
    obtain ⟨z0, z1, z2, zf, zl⟩ := (HQ.out _ hb8).cv
    have HIL := Lib.hid hil
    clear hz hb8 hil HVAL HQ7 HC5 HA5
    obtain ⟨va, hva⟩ : ∃ va, evalV 12 ps' [l] ins = [va] := ⟨_, rfl⟩
    rw [hva] at HE8
    go_wp2_with fail
    refine HE8.out.mono ?_
    rintro e w9 ⟨za, rfl, hza, hb9⟩
    have hgl8 : gi < w8.heap.size := hgl
    obtain ⟨ga, ca, rfl, hga, hgal, _, _⟩ := own_some hza (by simp)
    have x0 := (HCI.out.keep hb9).cells K (by rw [HIL.out]; exact hK12)
    have xf := (HCI.out.keep hb9).free K
    have HC10 := Lib.hid ((HCI.out.keep hb9).set K (!(ins.getD K false)))
    have HB9 := Lib.hid (HB8.out.trans (hb9.mono HB8.out.size))
    have HB10 := Lib.hid (HB9.out.setCell (show w7.heap.size ≤ (⟨gi, K, none⟩ : Addr).block from hgi) (.bool (!(ins.getD K false))))
    have HA10 := Lib.hid (ownsRow_setCell_below hza (a := ⟨gi, K, none⟩) hgl8 (.bool (!(ins.getD K false))))
    have HIL10 : Hid ((ins.set K (!(ins.getD K false))).length = 12) := by unfold Hid; rw [List.length_set]; exact HIL.out
    have HE10 := Lib.hid (HEV.out _ HB10.out (.slice (some ⟨gi, 0, none⟩) 12 ci) (ins.set K (!(ins.getD K false))) (by have := HC10.out.row ci (by rw [HIL10.out]; exact hci1) hci2; rwa [HIL10.out] at this) (by rw [HIL10.out]; omega))
    have HTU := Lib.hid (eval_turned ins (fun k hk => HOKP.out k (by have := HM5.out; omega)) l (by rw [HM5.out]; exact HLL.out) K hK12 (!(ins.getD K false)))
    clear z0 z1 z2 zf zl hza hb9 HE8 HCI HB8 HB9
    obtain ⟨vb, hvb⟩ : ∃ vb, evalV 12 ps' [l] (ins.set K (!(ins.getD K false))) = [vb] := ⟨_, rfl⟩
    rw [hvb] at HE10
    rw [hva, hvb] at HTU
    have HVB := Lib.hid hvb
    clear hva hvb
    obtain ⟨z0, z1, z2, zf, zl⟩ := (HQ.out _ HB10.out).cv
    generalize hins2 : ins.set K (!(ins.getD K false)) = ins2 at *
    clear hins2
    generalize hxk : ins.getD K false = xk at *
    clear hxk
    go_wp2_with fail
    generalize hw10 : w9.setCell ⟨gi, K, none⟩ (.bool (!xk)) = w10 at *
    clear hw10
    refine HE10.out.mono ?_
    rintro e w11 ⟨zb, rfl, hzb, hb11⟩
    obtain ⟨gb, cb, rfl, hgb, hgbl, _, _⟩ := own_some hzb (by simp)
    have HB11 := Lib.hid (HB10.out.trans (hb11.mono HB10.out.size))
    have HA11 := Lib.hid (own_keep HA10.out hb11)
    have HBB11 := Lib.hid hzb
    have HC11 := Lib.hid (HC10.out.keep hb11)
    clear z0 z1 z2 zf zl hzb hb11 HE10 HA10 HC10 HB10 x0 xf
    have HS11 := Lib.hid (HSU.out _ HB11.out)
    obtain ⟨z0, z1, z2, zf, zl⟩ := (HQ.out _ HB11.out).cv
    simp only [List.length_singleton]
    go_wp2_with fail
    refine HS11.out.mono ?_
    rintro e w12 ⟨⟨zs, rfl, hzs⟩, hb12⟩
    have HB12 := Lib.hid (HB11.out.trans (hb12.mono HB11.out.size))
    have HA12 := Lib.hid (own_keep HA11.out hb12)
    have HBB12 := Lib.hid (own_keep HBB11.out hb12)
    have HC12 := Lib.hid (HC11.out.keep hb12)
    have HSR := Lib.hid (own_row hzs)
    obtain ⟨as_, cs_, rfl, _, _⟩ := own_shape hzs
    clear z0 z1 z2 zf zl hzs hb12 HS11 HA11 HBB11 HC11 HB11
    have HC12' := Lib.hid (HCO.out _ HB12.out)
    obtain ⟨z0, z1, z2, zf, zl⟩ := (HQ.out _ HB12.out).cv
    go_wp2_with fail
    refine HC12'.out.mono ?_
    rintro e w13 ⟨⟨zc, rfl, hzc⟩, hb13⟩
    have HB13 := Lib.hid (HB12.out.trans (hb13.mono HB12.out.size))
    have HA13 := Lib.hid (own_keep HA12.out hb13)
    have HBB13 := Lib.hid (own_keep HBB12.out hb13)
    have HC13 := Lib.hid (HC12.out.keep hb13)
    have HSR13 := Lib.hid (HSR.out.keep hb13)
    have HCR13 := Lib.hid (own_row hzc)
    obtain ⟨ac, cc, rfl, _, _⟩ := own_shape hzc
    clear z0 z1 z2 zf zl hzc hb13 HC12' HA12 HBB12 HC12 HSR HB12
    obtain ⟨z0, z1, z2, zf, zl⟩ := (HQ.out _ HB13.out).cv
    go_upto_region 18 with fail
    have HCL : Hid (∀ W, Below w13.heap.size w13 W → W.cell? ⟨w5.heap.size, 1, none⟩ = some (.slice au5 m5 cu5) ∧ W.cell? ⟨w5.heap.size, 2, none⟩ = some (.slice (some ⟨w6.heap.size, 0, none⟩) 1 1)) := fun W hW => ⟨(HQ.out _ (HB13.out.trans (hW.mono HB13.out.size))).cv.c1, (HQ.out _ (HB13.out.trans (hW.mono HB13.out.size))).cv.c2⟩
    have HPA := Lib.hid (fun W (hW : Below w13.heap.size w13 W) => pairs_any (.slice au5 m5 cu5) ps' W (HU.out W (HQ.out _ (HB13.out.trans (hW.mono HB13.out.size))).bel) (by rw [HM5.out]; omega))
    rw [HM5.out] at HPA
    clear z0 z1 z2 zf zl
    go_cut [16] (fun d W => ∃ bd aq cq, d = .pointer (some ⟨bd, 0, none⟩) ∧ DV w13 12 ps' (.slice (some ⟨w6.heap.size, 0, none⟩) 1 1) m5 bd aq cq W)
    case first =>
      have hV0 : Below w13.heap.size w13 w13.drew := (Below.refl _ _).drew
      have hVA : Below w13.heap.size w13 (w13.drew.alloc (.cells #[.int .i64 0, .slice none 0 0, .slice none 0 0] 26)) := hV0.alloc (Nat.le_refl _) _
      have HZ : Hid (CV (w13.drew.alloc (.cells #[.int .i64 0, .slice none 0 0, .slice none 0 0] 26)) w13.heap.size 0 (.slice none 0 0) (.slice none 0 0)) := CV.new w13.drew 0 (.slice none 0 0) (.slice none 0 0) 26
      have HSX := HCL.out w13 (Below.refl _ _)
      have HS0 := Lib.hid (HCL.out _ hV0)
      have HSA := Lib.hid (HCL.out _ hVA)
      have HS00 := Lib.hid HSX
      clear HSX
      go_region_held3 (fun W => W.cell? ⟨w5.heap.size, 1, none⟩ = some (.slice au5 m5 cu5) ∧ W.cell? ⟨w5.heap.size, 2, none⟩ = some (.slice (some ⟨w6.heap.size, 0, none⟩) 1 1)) (first | (with_reducible exact HS00.out) | (with_reducible exact HS0.out) | (with_reducible exact HSA.out) | (with_reducible exact HSP.out) | (exact HCL.out _ (hVP.alloc hVP.size _)) | (exact HCL.out _ (((hVP.setCell (Nat.le_refl _) _).setCell (Nat.le_refl _) _).setCell (Nat.le_refl _) _)) | (exact HSA.out)) (first
        | (go_at_call 30; refine (HPA.out _ (by first | exact hV0 | exact hVA)).mono ?_; rintro e wP ⟨⟨uP, rfl, hPP⟩, hbP⟩; have HPP := Lib.hid hPP; have HBP := Lib.hid hbP; have hVP : Below w13.heap.size w13 wP := (by first | exact hV0.trans (hbP.mono hV0.size) | exact hVA.trans (hbP.mono hVA.size)); have HSP := Lib.hid (HCL.out _ hVP); obtain ⟨aP, cP, rfl, _⟩ := row_shape hPP; (try (have HZP := Lib.hid (HZ.out.keep hbP); obtain ⟨b0, b1, b2, bf, _⟩ := HZP.out)); clear hPP hbP))
      all_goals
        go_wp2_with fail
        go_meet
        obtain ⟨h1, h2, h3⟩ := DV.of_own HPP.out
        first
          | exact ⟨_, _, _, rfl, CV.new wP 12 _ _ _, h1.imp id (fun ⟨q, e, hp, hq1, hq2⟩ => ⟨q, e, hp.keep ((Below.refl _ _).alloc (Nat.le_refl _) _), Nat.ne_of_lt hq2, hq1⟩), h2, h3, hVP.alloc hVP.size _, hVP.size⟩
          | exact ⟨_, _, _, rfl, ((HZP.out.set0 12).set1 _).set2 _, h1.imp id (fun ⟨q, e, hp, hq1, hq2⟩ => ⟨q, e, ((hp.off (by simp at hq1; omega) _).off (by simp at hq1; omega) _).off (by simp at hq1; omega) _, by simp at hq1; omega, by simp at hq1; omega⟩), h2, h3, ((hVP.setCell (Nat.le_refl _) _).setCell (Nat.le_refl _) _).setCell (Nat.le_refl _) _, Nat.le_refl _⟩
    case rest =>
      obtain ⟨bd, aq, cq, rfl, hdv⟩ := hcut
      obtain ⟨w14, rfl⟩ : ∃ w14 : World, w14 = wc := ⟨_, rfl⟩
      have HDV0 : Hid (DV w13 12 (spoilP 12 ps' (hangs 12 ps' (l / 2).toNat) 0) (.slice (some ⟨w6.heap.size, 0, none⟩) 1 1) m5 bd aq cq w14) := by unfold Hid; rw [spoilP_zero]; exact hdv
      have HSL := Lib.hid (fun i => spoilP_len 12 ps' (hangs 12 ps' (l / 2).toNat) i)
      have HSK := Lib.hid (fun i h => spoilP_keep (N := 12) (ps := ps') (f := hangs 12 ps' (l / 2).toNat) (i := i) h)
      have HST := Lib.hid (fun i (hi : i < ps'.length) h => spoilP_turn (N := 12) (ps := ps') (f := hangs 12 ps' (l / 2).toNat) (i := i) hi h)
      have HHC := Lib.hid (fun W (hW : Below w13.heap.size w13 W) j => has_any _ (coneL 12 ps' (l / 2).toNat) (13 + (j : Int)) W (HCR13.out.keep hW))
      have HMC : Hid (∀ j : Nat, decide ((13 + (j : Int)) ∈ coneL 12 ps' (l / 2).toNat) = hangs 12 ps' (l / 2).toNat (12 + 1 + j)) := fun j => by
        rw [show 13 + (j : Int) = ((12 + 1 + j : Nat) : Int) by omega]
        exact mem_cone _ _
      have HEF := Lib.hid (fun W (hW : Below w13.heap.size w13 W) u hu => leval_any A 12 u (.slice (some ⟨w6.heap.size, 0, none⟩) 1 1) (.slice (some ⟨gi, 0, none⟩) 12 ci) (spoilP 12 ps' (hangs 12 ps' (l / 2).toNat) ps'.length) [l] ins2 W (HS.out W (HB5.out.trans ((HQ.out W (HB13.out.trans (hW.mono HB13.out.size))).bel.mono HB5.out.size))) hu (own_row (HQ.out W (HB13.out.trans (hW.mono HB13.out.size))).own) (by simp) (check_in64 HK1.out) (by have := (HC13.out.keep hW).row ci (by rw [HIL10.out]; exact hci1) hci2; rwa [HIL10.out] at this) (by rw [HIL10.out]; omega)
        (mk_right (by rw [spoilP_len]; exact (check_zero8 HK1.out).1) (spoilP_ok (fun k hk => HOKP.out k (by have := HM5.out; omega)) _ _) (fun o ho => by rw [List.mem_singleton] at ho; subst ho; rw [okO_iff, spoilP_len]; have := HLL.out; have := HM5.out; omega)))
      rw [eval_spoil ins2 (fun k hk => HOKP.out k (by have := HM5.out; omega)) l (by rw [HM5.out]; exact HLL.out), HVB.out, HM5.out] at HEF
      unfold circV at HEF
      rw [show ((12 : Nat) : Int) = 12 from rfl] at HEF
      clear hdv HCL HPA HEV HSU HCO
      go_wp2_with fail
      go_loopw [17] (fun i wr => ∃ j : Nat, j ≤ m5 ∧ i = .int .i64 (j : Int) ∧ DV w13 12 (spoilP 12 ps' (hangs 12 ps' (l / 2).toNat) j) (.slice (some ⟨w6.heap.size, 0, none⟩) 1 1) m5 bd aq cq wr) (fun i _ => m5 - (intOf i).toNat)
      case atStart => exact ⟨0, Nat.zero_le _, rfl, HDV0.out⟩
      case round =>
        obtain ⟨j, hj, rfl, hdv⟩ := hrel
        clear HDV0
        have HDV := Lib.hid hdv
        have hlj : (spoilP 12 ps' (hangs 12 ps' (l / 2).toNat) j).length = m5 := (HSL.out j).trans HM5.out
        have HLJ := Lib.hid hlj
        obtain ⟨⟨z0, z1, z2, zf, zl⟩, hq, hc1, hc2, hbr, hbd⟩ := hdv
        have HBR := Lib.hid hbr
        clear hlj
        by_cases hlt : j < m5
        · have HH := Lib.hid (HHC.out wr hbr j)
          rw [HMC.out] at HH
          cases hf : hangs 12 ps' (l / 2).toNat (12 + 1 + j) with
          | true =>
            rw [hf] at HH
            have HN := Lib.hid (HSK.out j hf)
            clear hf hq hbr
            go_wp2_with fail
            refine HH.out.mono ?_
            rintro e w' ⟨rfl, rfl⟩
            go_wp2_with fail
            go_roundw
            case rel => exact ⟨j + 1, by omega, by go_num, by rw [HN.out]; exact HDV.out⟩
            case measure => simp [intOf]; omega
          | false =>
            rw [hf] at HH
            have HN := Lib.hid (HST.out j (by have := HM5.out; omega) hf)
            obtain ⟨q, rfl, hp, hqb, hqs⟩ := hq.resolve_left (by omega)
            have x0 := hp.c0 j (by have := HLJ.out; omega)
            have x1 := hp.c1 j (by have := HLJ.out; omega)
            have f0 := hp.fr (j * 2)
            have f1 := hp.fr (j * 2 + 1)
            have HT := Lib.hid (HDV.out.turn j (by have := HLJ.out; omega) HLJ.out)
            rw [← HN.out] at HT
            clear hf hbr hp HN
            generalize (spoilP 12 ps' (hangs 12 ps' (l / 2).toNat) j).getD j (0, 0) = xy at *
            go_wp2_with fail
            refine HH.out.mono ?_
            rintro e w' ⟨rfl, rfl⟩
            go_wp2_with fail
            go_roundw
            case rel => exact ⟨j + 1, by omega, by go_num, HT.out⟩
            case measure => simp [intOf]; omega
        · have hjm : m5 = j := by omega
          subst hjm
          have HE := Lib.hid (HEF.out wr hbr _ (HDV.out.prow HLJ.out))
          clear hq hbr
          go_wp2_with fail
          refine HE.out.mono ?_
          rintro e w15 ⟨ze, rfl, hze, hb15⟩
          obtain ⟨ge, ce, rfl, hge, hgel, _, _⟩ := own_some hze (by simp)
          have HB15 := Lib.hid (HBR.out.trans (hb15.mono HBR.out.size))
          have a0 := (own_keep HA13.out HB15.out).cells (g := ga) rfl 0 (.bool va) rfl
          have b0 := (own_keep HBB13.out HB15.out).cells (g := gb) rfl 0 (.bool vb) rfl
          have e0 := hze.cells (g := ge) rfl 0 (.bool vb) rfl
          rw [show (⟨ga, 0, none⟩ : Addr).add 0 = ⟨ga, 0, none⟩ from rfl] at a0
          rw [show (⟨gb, 0, none⟩ : Addr).add 0 = ⟨gb, 0, none⟩ from rfl] at b0
          rw [show (⟨ge, 0, none⟩ : Addr).add 0 = ⟨ge, 0, none⟩ from rfl] at e0
          have HHS := Lib.hid (fun t => has_any _ (suppL 12 ps' (l / 2).toNat) (K : Int) (w15.drewN t) (HSR13.out.keep (below_drewN HB15.out t)))
          have HBF : Hid (∀ t, Below w.heap.size w (w15.drewN t)) := fun t => below_drewN (HB5.out.trans ((HQ.out _ (HB13.out.trans (HB15.out.mono HB13.out.size))).bel.mono HB5.out.size)) t
          have hv : (vb == vb) = true := by simp
          simp only [List.length_singleton]
          clear z0 z1 z2 zf zl hze hb15
          generalize hsb : decide ((K : Int) ∈ suppL 12 ps' (l / 2).toNat) = sb at *
          clear hsb
          go_upto_region 25 with fail
          cases sb with
          | true =>
            go_quiet (first | (go_at_call 31; refine (HHS.out _).mono ?_; rintro e w' ⟨rfl, rfl⟩; exact ⟨rfl, _, rfl⟩))
            go_wp2_with fail
            go_ret
            exact ⟨rfl, HBF.out _⟩
          | false =>
            have hab : (va == vb) = true := by
              have := HTU.out
              simp at this
              simp [this]
            go_quiet (first | (go_at_call 31; refine (HHS.out _).mono ?_; rintro e w' ⟨rfl, rfl⟩; exact ⟨rfl, _, rfl⟩))
            go_wp2_with fail
            go_ret
            exact ⟨rfl, HBF.out _⟩
end Go.Proofs.YtdmhjpofinnpmaaDoor
