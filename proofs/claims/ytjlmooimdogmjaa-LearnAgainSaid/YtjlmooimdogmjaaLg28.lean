/- The contract of prop's Add, of the state in memory. Conditions: 64-bit ints; at most a milliard literals; the prop lies in memory as 'MA' says, at rest; at most a million clauses so far. · How the prop in memory reads as plain data ('Pr'). No conditions beyond those typed. -/
import Derived.Test.YtjlmooimdogmjaaLg27
import Derived.BigRegion
import Derived.Test.YtjlmooimdogmjaaLg19
import Derived.Test.YtjlmooimdogmjaaLg22
import Derived.Test.YtjlmooimdogmjaaLg04
set_option linter.unusedVariables false
set_option linter.unusedSimpArgs false
namespace Go.Proofs.Ytjlmooimdogmjaa
open Go.RowKit

def addB (m : Mc) (xs : List Int) : Bool := decide (∀ x ∈ xs, (1 ≤ plc x ∧ plc x ≤ m.n) ∧ -x ∉ xs)
def AddMR (w : World) (ρ : Nat → Option Rl) (L : Lay) (m : Mc) (xs : List Int) (e : Ending) (w' : World) : Prop :=
  (addB m xs = false ∧ e = .returned (.tuple #[.int .i64 0, .bool false]) ∧ Below w.heap.size w w') ∨
  (addB m xs = true ∧ e = .returned (.tuple #[.int .i64 (m.nx : Int), .bool true]) ∧ ∃ ρ' L', MA w' ρ' L' (addM m (normL xs)) ∧ Chr ρ w ρ' w' ∧ L'.p = L.p)
theorem MA.lookN {w : World} {ρ : Nat → Option Rl} {L : Lay} {m : Mc} {B : Nat} {v' : Value} {c : List Int} (h : MA w ρ (layA L m B v') (addN m c)) (hI : McI (addM m c)) (hnx : m.nx ≤ 1000000) :
    (Instr.lookup 64 (.map (some L.mb)) (.int .i64 (m.nx : Int)) false).run Try.prog w = .ok (.pointer (some ⟨B, 0, none⟩)) w := by
  have hcl : upd m.cl m.nx (some c) m.nx = some c := upd_same _ _ _
  rcases h.look hI.w.mps (m.nx : Int) (by omega) (by omega) with ⟨d, _, hd, hrun⟩ | ⟨hd, _⟩
  · have e : ptrC (layA L m B v') (m.nx : Int).toNat = .pointer (some ⟨B, 0, none⟩) := by
      show Value.pointer (some ⟨upd L.cb m.nx B (m.nx : Int).toNat, 0, none⟩) = _
      rw [Int.toNat_natCast, upd_same]
    rw [e] at hrun
    exact hrun
  · rcases hd with hd | hd
    · omega
    · have hd' : upd m.cl m.nx (some c) (m.nx : Int).toNat = none := hd
      rw [Int.toNat_natCast, hcl] at hd'
      cases hd'
section
variable {w : World} {ρ : Nat → Option Rl} {L : Lay} {m : Mc}

set_option maxRecDepth 8000 in
set_option maxHeartbeats 16000000 in
theorem madd_any (h : MA w ρ L m) (hI : McI m) (hnx : m.nx ≤ 1000000) (u : Value) (xs : List Int) (hu : Row w u xs) (hx : InW xs) (hn : xs.length < 1000000000) :
    Calls Try.prog 18 #[ptrP L, u] w (AddMR w ρ L m xs) := by
  have HNO := Lib.hid (norm_any u xs w hu hx hn)
  have HIS := Lib.hid (fun (l : Int) (h1 : -9223372036854775807 ≤ l) (h2 : l ≤ 9223372036854775807) => mis_any h l h1 h2 hI.w.n)
  obtain ⟨ua, uc, rfl, hul, huc, hcell⟩ := hu
  unfold maxLen at huc
  unfold ptrP at *
  have HM := Lib.hid h
  have HI := Lib.hid hI
  have c6 := h.pc.c6
  have f6 := h.pc.fr 6
  have HX := Lib.hid hx
  clear h hI hx
  generalize hLN : xs.length = LN at hul hcell HNO hn ⊢
  have HLN := Lib.hid hLN
  clear hLN
  have HCL := Lib.hid hcell
  clear hcell
  go_enter Try.func18, Try.ntmps18
  go_wp2_with fail
  go_loopw [7, 13] (fun _ u13 W => ∃ (j : Nat), j ≤ LN ∧ u13 = .int .i64 (j : Int) ∧ W = w ∧ ∀ x ∈ xs.take j, isM m.n x = true) (fun _ u13 _ => LN - (intOf u13).toNat)
  case atStart => exact ⟨0, by omega, rfl, rfl, nofun⟩
  case round =>
    obtain ⟨j, hj, rfl, rfl, hall⟩ := hrel
    have HALL := Lib.hid hall
    clear hall
    by_cases hjl : j < LN
    · obtain ⟨b, off, ha, hb, hc⟩ := HCL.out.resolve_left (by omega)
      subst ha
      have x6 := hc j hjl
      have hxj : xs.getD j 0 ∈ xs := getD_mem' (by rw [HLN.out]; exact hjl)
      have hxw := HX.out _ hxj
      have HTK : Hid (xs.take (j + 1) = xs.take j ++ [xs.getD j 0]) := by
        unfold Hid
        rw [List.take_succ_eq_append_getElem (by rw [HLN.out]; exact hjl)]
        simp [List.getD, show j < xs.length by rw [HLN.out]; exact hjl]
      obtain ⟨y, hy⟩ : ∃ y, xs.getD j 0 = y := ⟨_, rfl⟩
      rw [hy] at x6 hxj hxw HTK
      have HXJ := Lib.hid hxj
      have HS := Lib.hid (HIS.out y hxw.1 hxw.2)
      clear hc hxj hxw hy
      cases hi : isM m.n y with
      | true =>
        rw [hi] at HS
        have HI1 := Lib.hid hi
        clear hi
        go_wp2_with fail
        refine HS.out.mono ?_
        rintro e w1 ⟨rfl, rfl⟩
        go_wp2_with fail
        go_roundw
        case rel => exact ⟨j + 1, by omega, by go_num, by first | rfl | trivial, fun x hx => by
          rw [HTK.out, List.mem_append, List.mem_singleton] at hx
          rcases hx with hx | rfl
          · exact HALL.out x hx
          · exact HI1.out⟩
        case measure => go_light; simp [intOf]; omega
      | false =>
        rw [hi] at HS
        have HE : Hid (AddMR wr ρ L m xs (.returned (.tuple #[.int .i64 0, .bool false])) wr) := by
          refine .inl ⟨?_, rfl, Below.refl _ _⟩
          unfold addB
          rw [decide_eq_false_iff_not]
          intro hn'
          have := isM_iff.2 (hn' y HXJ.out).1
          rw [hi] at this
          cases this
        clear hi
        go_wp2_with fail
        refine HS.out.mono ?_
        rintro e w1 ⟨rfl, rfl⟩
        go_wp2_with fail
        go_ret2
        exact HE.out
    · have hje : j = LN := by omega
      have HALL2 : Hid (∀ x ∈ xs, 1 ≤ plc x ∧ plc x ≤ m.n) := fun x hx => isM_iff.1 (HALL.out x (by rw [hje, ← HLN.out, List.take_of_length_le (Nat.le_refl _)]; exact hx))
      have HSAY := Lib.hid (says_known HI.out.w.n HALL2.out)
      go_wp2_with fail
      refine HNO.out.mono ?_
      rintro e w1 ⟨v', rfl, hb1, ho1⟩
      have HB1 := Lib.hid hb1
      have HO1 := Lib.hid ho1
      obtain ⟨na, nc, rfl, _⟩ := own_shape ho1
      clear hb1 ho1
      cases hs : normSays (normL xs) with
      | false =>
        have HE : Hid (AddMR wr ρ L m xs (.returned (.tuple #[.int .i64 0, .bool false])) w1) := by
          refine .inl ⟨?_, rfl, HB1.out⟩
          unfold addB
          rw [decide_eq_false_iff_not]
          intro hn'
          have := HSAY.out.2 (fun x hx => (hn' x hx).2)
          rw [hs] at this
          cases this
        clear hs
        go_wp2_with fail
        go_ret2
        exact HE.out
      | true =>
        have HOK : Hid (addB m xs = true) := by
          unfold Hid addB
          rw [decide_eq_true_iff]
          exact fun x hx => ⟨HALL2.out x hx, HSAY.out.1 hs x hx⟩
        have hM1 := HM.out.below HB1.out
        have c61 := hM1.pc.c6
        have c51 := hM1.pc.c5
        have f61 := hM1.pc.fr 6
        have hl1 := hM1.lt _ _ hM1.rp
        obtain ⟨N, D, hMO, hN, hD⟩ := (hM1.at' .mp).2
        have hml := hM1.lt _ _ (hM1.at' .mp).1
        have hpm : L.p ≠ L.mb := fun e => by have := hM1.rp; rw [e, (hM1.at' .mp).1] at this; cases this
        have HMW : Hid (((w1.setCell ⟨L.p, 6, none⟩ (.int .i64 ((m.nx : Int) + 1))).alloc (.cells #[.int .i64 (m.nx : Int), .slice na (normL xs).length nc] 77)).ownsMap (H := Nat) Try.prog 3 ptrElem L.mb N D) := by
          refine World.ownsMap.alloc ?_ _
          exact World.ownsMap.kept hMO (Only.setCell _ _ _ _) (fun e => hpm (by injection e with e; exact e.symm))
        have HADD : Hid (∀ w2, w2.ownsMap (H := Nat) Try.prog 3 ptrElem L.mb (N + 1) (D.put (.int .i64 (m.nx : Int)) (.held w1.heap.size)) → Only L.mb ((w1.setCell ⟨L.p, 6, none⟩ (.int .i64 ((m.nx : Int) + 1))).alloc (.cells #[.int .i64 (m.nx : Int), .slice na (normL xs).length nc] 77)) w2 → MA w2 (rhoA ρ m w1.heap.size (.slice na (normL xs).length nc)) (layA L m w1.heap.size (.slice na (normL xs).length nc)) (addN m (normL xs)) ∧ Chr ρ wr (rhoA ρ m w1.heap.size (.slice na (normL xs).length nc)) w2) :=
          fun w2 h1 h2 => HM.out.addC HI.out.noN HB1.out HO1.out hN hMO.isMap hnx hD h1 h2
        have hNm : N < maxLen := by unfold maxLen; omega
        clear hs hM1 hMO hN hD c6 f6 HNO HALL HIS
        go_upto_region 13 with (at_mapUpdate; refine wpList_mapUpdate_own _ rfl _ _ _ 64 rfl 3 68 lawI Try.underlying64 _ L.mb N D rfl HMW.out hNm _ _ (.int .i64 (m.nx : Int)) rfl rfl (keyI (m.nx : Int) (by omega) (by omega)) (.held w1.heap.size) [] rfl ?_; intro w2 ho2 hg2; obtain ⟨hM2, hC2⟩ := HADD.out w2 ho2 hg2; have HM2 := Lib.hid hM2; have HC2 := Lib.hid hC2; clear hM2 hC2 ho2 hg2)
        rename World => w2
        have hok := HOK.out
        unfold addB at hok
        rw [decide_eq_true_iff] at hok
        have HIA : Hid (McI (addM m (normL xs))) := HI.out.add (norm_nodup xs) fun l hl => by
          obtain ⟨k1, k2⟩ := hok l ((norm_spec xs).2 l |>.1 hl)
          exact ⟨k1, fun hn' => k2 ((norm_spec xs).2 _ |>.1 hn')⟩
        obtain ⟨sa, sc, hss, _⟩ := ro_shape (HM.out.at' .td)
        rw [List.length_map] at hss
        have HSS := Lib.hid hss
        have c72 : w2.cell? ⟨L.p, 7, none⟩ = some L.tdv := HM2.out.pc.c7
        have c52 : w2.cell? ⟨L.p, 5, none⟩ = some (.map (some L.mb)) := HM2.out.pc.c5
        have hl2 : L.p < w2.heap.size := HM2.out.lt _ _ HM2.out.rp
        rw [hss] at c72
        have hlk := (HM2.out.below (Below.refl _ _).drew).lookN HIA.out hnx
        have HB : Hid (Below w2.heap.size w2 (w2.drew.alloc (.cells #[.pointer (some ⟨w1.heap.size, 0, none⟩)] 68))) := (Below.refl _ _).drew.alloc (Nat.le_refl _) _
        have HA := Lib.hid (HM2.out.below HB.out)
        have hos2 := (HA.out.at' .td).1
        rw [List.length_map] at hos2
        have hos2 : (w2.drew.alloc (.cells #[.pointer (some ⟨w1.heap.size, 0, none⟩)] 68)).ownsRow 0 68 1 (.slice sa m.td.length sc) m.td.length (m.td.map (ptrC (layA L m w1.heap.size (.slice na (normL xs).length nc)))) := by rw [← hss]; exact hos2
        have HOS2 := Lib.hid hos2
        have htdl : m.td.length ≤ 1000000 := by have := (lst_len HI.out.w HI.out.l).2.2; omega
        have HSRC : Hid ((w2.drew.alloc (.cells #[.pointer (some ⟨w1.heap.size, 0, none⟩)] 68)).cell? ((⟨w2.heap.size, 0, none⟩ : Addr).add 0) = some (.pointer (some ⟨w1.heap.size, 0, none⟩))) := by
          have := heap_alloc_new w2.drew (.cells #[.pointer (some ⟨w1.heap.size, 0, none⟩)] 68)
          exact (cell_of_row _ _ 0 _ _ _ this).trans rfl
        have HPE : Hid (m.td.map (ptrC (layA L m w1.heap.size (.slice na (normL xs).length nc))) ++ [.pointer (some ⟨w1.heap.size, 0, none⟩)] = (m.td ++ [m.nx]).map (ptrC (layA L m w1.heap.size (.slice na (normL xs).length nc)))) := by
          unfold Hid
          rw [List.map_append]
          congr 1
          show _ = [Value.pointer (some ⟨upd L.cb m.nx w1.heap.size m.nx, 0, none⟩)]
          rw [upd_same]
        clear hok hss hos2 c61 c51 f61 hpm HMW HADD
        simp only [Act.put]
        go_region_law (refine step_appC 65 68 (.pointer none) 1 8 Try.underlying65 infoPc rfl (by decide) (by decide) rfl _ _ rfl (w2.drew.alloc (.cells #[.pointer (some ⟨w1.heap.size, 0, none⟩)] 68)) 0 (.slice sa m.td.length sc) m.td.length _ (some ⟨w2.heap.size, 0, none⟩) 1 1 [.pointer (some ⟨w1.heap.size, 0, none⟩)] HOS2.out (Nat.zero_le _) (by omega) rfl (.inr ⟨_, rfl, fun j u hj => by
          match j, hj with
          | 0, hj => simp at hj; subst hj; exact HSRC.out⟩) (fun u hu => by simp at hu; subst hu; rfl) (by simp [Act.eval, Act.put]) (by simp [Act.eval, Act.put]) ?_; intro v5 w5 ho5 hap5; obtain ⟨a5, k5, rfl, _⟩ := own_shape ho5; rw [← HSS.out] at hap5; rw [HPE.out] at ho5; obtain ⟨ρ5, hM5, hC5, k7, f7⟩ := HA.out.tdApp hap5 ho5; have k7 : w5.cell? ⟨L.p, 7, none⟩ = some L.tdv := k7; have f7 : w5.frozen? ⟨L.p, 7, none⟩ = false := f7; rw [HSS.out] at k7; have hlt5 : L.p < w5.heap.size := Nat.lt_of_lt_of_le (HA.out.lt _ _ HA.out.rp) hap5.below.size; have HM5 := Lib.hid hM5; have HC5 := Lib.hid hC5; clear hM5 hC5 ho5 hap5)
        all_goals (
          have HE : Hid (AddMR wr ρ L m xs (.returned (.tuple #[.int .i64 (m.nx : Int), .bool true])) (w5.setCell ⟨L.p, 7, none⟩ (.slice a5 (m.td.length + 1) k5))) := .inr ⟨HOK.out, rfl, ρ5, _, HM5.out, HC2.out.trans ((Chr.of_below HB.out).trans HC5.out), rfl⟩
          go_wp2_with fail
          go_ret2
          exact HE.out)

end
end Go.Proofs.Ytjlmooimdogmjaa

namespace Go.Proofs.Ytjlmooimdogmjaa
open Go.RowKit

def rsI : Option Nat → Int
  | none => -1
  | some k => (k : Int)
structure RelP (m : Mc) (p : Pr) : Prop where
  n : p.n = m.n
  tr : p.tr = m.tr
  st : p.st = m.st
  rs : p.rs = m.tr.map fun l => rsI (m.rs (plc l))
  len : p.cl.length = m.nx
  cl : ∀ i, (m.cl i = none ∧ p.cl.getD i none = none) ∨ ∃ c d, m.cl i = some c ∧ p.cl.getD i none = some d ∧ d.Perm c
section
variable {m m' : Mc} {p p' : Pr}
theorem RelP.rsAt (h : RelP m p) {i : Nat} (hi : i < m.tr.length) : p.rs.getD i (-1) = rsI (m.rs (plc (m.tr.getD i 0))) := by
  rw [h.rs]
  simp [List.getD, hi]
theorem RelP.inv (h : RelP m p) {i : Nat} {d : List Int} (hd : p.cl.getD i none = some d) : ∃ c, m.cl i = some c ∧ d.Perm c := by
  rcases h.cl i with ⟨_, h2⟩ | ⟨c, d', h1, h2, h3⟩
  · rw [hd] at h2; cases h2
  · rw [hd] at h2
    injection h2 with h2
    subst h2
    exact ⟨c, h1, h3⟩
theorem RelP.of (h : RelP m p) {i : Nat} {c : List Int} (hc : m.cl i = some c) : ∃ d, p.cl.getD i none = some d ∧ d.Perm c := by
  rcases h.cl i with ⟨h1, _⟩ | ⟨c', d', h1, h2, h3⟩
  · rw [hc] at h1; cases h1
  · rw [hc] at h1
    injection h1 with h1
    subst h1
    exact ⟨d', h2, h3⟩
theorem RelP.wf (h : RelP m p) (hw : McW m) : PrW p where
  n := by rw [h.n]; exact hw.n
  len := by rw [h.rs, h.tr, List.length_map]
  rgt := fun l hl => by rw [h.tr] at hl; rw [h.n]; exact hw.rgt hl
  one := by rw [h.tr]; exact hw.one
  sorted := by rw [h.st]; exact hw.sorted
  lt := by rw [h.st, h.tr]; exact hw.lt
  cls := fun d hd => by
    obtain ⟨k, hk⟩ := mem_clsP.1 hd
    obtain ⟨c, hc, hp⟩ := h.inv hk
    obtain ⟨_, h1, h2⟩ := hw.cls k c hc
    rw [h.n]
    exact ⟨hp.symm.nodup h1, fun l hl => ⟨(h2 l (hp.mem_iff.1 hl)).1, fun hn => (h2 l (hp.mem_iff.1 hl)).2 (hp.mem_iff.1 hn)⟩⟩
  dec := fun i hi => by
    rw [h.tr] at hi
    rw [h.rsAt hi, h.st]
    constructor
    · intro e
      refine Classical.byContradiction fun hs => ?_
      obtain ⟨k, c, h1, _⟩ := hw.rsn i hi hs
      rw [h1] at e
      have e' : (k : Int) = -1 := e
      omega
    · intro hs
      rw [hw.dec i hi hs]; rfl
  rsn := fun i hi hs => by
    rw [h.tr] at hi
    rw [h.st] at hs
    obtain ⟨k, c, h1, h2, h3⟩ := hw.rsn i hi hs
    obtain ⟨d, hd, hp⟩ := h.of h2
    refine ⟨k, d, by rw [h.rsAt hi, h1]; rfl, hd, ?_, fun l hl hne => ?_⟩
    · rw [h.tr]; exact hp.mem_iff.2 (by simp)
    · rw [h.tr] at hne ⊢
      rcases List.mem_cons.1 (hp.mem_iff.1 hl) with e | hm
      · exact absurd e hne
      · exact h3 l hm
theorem RelP.val (h : RelP m p) (hw : McW m) (l : Int) : valP p l = valL m.vs l := by
  unfold valP
  rw [h.tr]
  by_cases h1 : l ∈ m.tr
  · rw [if_pos h1, (hw.tv l).2 h1]
  · rw [if_neg h1]
    by_cases h2 : -l ∈ m.tr
    · rw [if_pos h2, (hw.vf l).2 h2]
    · rw [if_neg h2, (hw.v0 l).2 ⟨h1, h2⟩]
theorem RelP.pos_none (h : RelP m p) (hw : McW m) {x : Int} (hk : knownM m x = false) : posV p.tr x.toNat = none := by
  unfold posV
  rw [List.findIdx?_eq_none_iff]
  intro l hl
  rw [h.tr] at hl
  rw [decide_eq_false_iff_not]
  intro e
  have h1 := hw.rgt hl
  have h0 : 0 < x := by omega
  have e2 : plc x = plc l := by
    have := plc_abs x
    unfold absI at this
    rw [if_neg (by omega)] at this
    omega
  have : knownM m x = true := by
    rw [knownM_iff hw]
    refine ⟨h0, ?_⟩
    rcases plc_pm e2 with e | e
    · exact .inl (e ▸ hl)
    · right; rw [e]; simpa using hl
  rw [hk] at this; cases this
theorem RelP.pos_some (h : RelP m p) (hw : McW m) {x : Int} (hk : knownM m x = true) : ∃ i, i < m.tr.length ∧ posV p.tr x.toNat = some i ∧ plc (m.tr.getD i 0) = x.toNat := by
  obtain ⟨h0, h1⟩ := (knownM_iff hw).1 hk
  have hp : plc x = x.toNat := by
    have := plc_abs x
    unfold absI at this
    rw [if_neg (by omega)] at this
    omega
  cases e : posV p.tr x.toNat with
  | none =>
    unfold posV at e
    rw [List.findIdx?_eq_none_iff, h.tr] at e
    rcases h1 with h1 | h1
    · have := e _ h1
      rw [decide_eq_false_iff_not] at this
      exact absurd hp this
    · have := e _ h1
      rw [decide_eq_false_iff_not, plc_ng] at this
      exact absurd hp this
  | some i =>
    unfold posV at e
    rw [h.tr, List.findIdx?_eq_some_iff_getElem] at e
    obtain ⟨hi, hd, _⟩ := e
    rw [decide_eq_true_iff] at hd
    exact ⟨i, hi, rfl, by simpa [List.getD, hi] using hd⟩
theorem RelP.lev (h : RelP m p) (hw : McW m) (x : Int) : levP p x = if knownM m x = true then (m.lv x.toNat : Int) else -1 := by
  unfold levP
  cases hk : knownM m x with
  | false => rw [h.pos_none hw hk]; rfl
  | true =>
    obtain ⟨i, hi, hp, e⟩ := h.pos_some hw hk
    rw [hp, if_pos rfl, ← e, hw.lvl i hi, h.st]
theorem RelP.rea (h : RelP m p) (hw : McW m) (x : Int) : reaP p x = reaM m x := by
  unfold reaP reaM
  cases hk : knownM m x with
  | false => rw [h.pos_none hw hk]; rfl
  | true =>
    obtain ⟨i, hi, hp, e⟩ := h.pos_some hw hk
    rw [hp, if_pos rfl]
    show p.rs.getD i (-1) = _
    rw [h.rsAt hi, e]
    cases m.rs x.toNat <;> rfl
theorem RelP.cond (h : RelP m p) (i : Int) : (if i < 0 then [] else (m.cl i.toNat).getD []).Perm (if i < 0 then [] else (p.cl.getD i.toNat none).getD []) := by
  by_cases h0 : i < 0
  · rw [if_pos h0, if_pos h0]
  · rw [if_neg h0, if_neg h0]
    rcases h.cl i.toNat with ⟨h1, h2⟩ | ⟨c, d, h1, h2, h3⟩
    · rw [h1, h2]
    · rw [h1, h2]; exact h3.symm
theorem RelP.add (h : RelP m p) (hI : McI m) (c : List Int) : RelP (addM m c) (addP p c) where
  n := h.n
  tr := h.tr
  st := h.st
  rs := h.rs
  len := by show (p.cl ++ [some c]).length = m.nx + 1; rw [List.length_append, h.len]; rfl
  cl := fun i => by
    show (upd m.cl m.nx (some c) i = none ∧ (p.cl ++ [some c]).getD i none = none) ∨ ∃ c' d, upd m.cl m.nx (some c) i = some c' ∧ (p.cl ++ [some c]).getD i none = some d ∧ d.Perm c'
    rcases Nat.lt_trichotomy i m.nx with hl | hl | hl
    · rw [upd_ne _ _ (by omega)]
      have : (p.cl ++ [some c]).getD i none = p.cl.getD i none := by simp [List.getD, List.getElem?_append_left (show i < p.cl.length by rw [h.len]; exact hl)]
      rw [this]; exact h.cl i
    · rw [hl, upd_same]
      have : (p.cl ++ [some c]).getD m.nx none = some c := by rw [← h.len]; simp [List.getD]
      rw [this]; exact .inr ⟨c, c, rfl, rfl, .refl _⟩
    · left
      rw [upd_ne _ _ (by omega)]
      constructor
      · cases e : m.cl i with
        | none => rfl
        | some d => have := (hI.w.cls i d e).1; omega
      · simp [List.getD, List.getElem?_eq_none (show (p.cl ++ [some c]).length ≤ i by rw [List.length_append, h.len]; simp; omega)]
theorem RelP.drop (h : RelP m p) {i : Nat} {c : List Int} (he : m'.n = m.n ∧ m'.tr = m.tr ∧ m'.st = m.st ∧ m'.rs = m.rs ∧ m'.nx = m.nx ∧ m'.cl = upd m.cl i none) (hc : m.cl i = some c) (hi : i < m.nx) : RelP m' { p with cl := p.cl.set i none } where
  n := by rw [he.1]; exact h.n
  tr := by rw [he.2.1]; exact h.tr
  st := by rw [he.2.2.1]; exact h.st
  rs := by rw [he.2.1, he.2.2.2.1]; exact h.rs
  len := by rw [he.2.2.2.2.1]; simpa using h.len
  cl := fun j => by
    rw [he.2.2.2.2.2]
    by_cases e : j = i
    · subst e
      left
      rw [upd_same]
      have hl : j < p.cl.length := by rw [h.len]; exact hi
      exact ⟨rfl, by simp [List.getD, hl]⟩
    · rw [upd_ne _ _ e]
      have : (p.cl.set i none).getD j none = p.cl.getD j none := by simp [List.getD, List.getElem?_set, Ne.symm e]
      rw [this]; exact h.cl j
theorem RelP.isr (h : RelP m p) (hw : McW m) {i : Nat} {c : List Int} (hc : m.cl i = some c) : isrM m i c = true ↔ (i : Int) ∈ p.rs := by
  constructor
  · intro hr
    cases c with
    | nil => cases hr
    | cons a r =>
      have hr' : m.rs (plc a) = some i := decide_eq_true_iff.1 hr
      obtain ⟨q, c0, hq, e2, hc0⟩ := hw.rs_head hr'
      rw [h.rs, List.mem_map]
      exact ⟨m.tr.getD q 0, getD_mem' hq, by rw [e2, hr']; rfl⟩
  · intro hm
    cases hr : isrM m i c with
    | true => rfl
    | false =>
      rw [h.rs, List.mem_map] at hm
      obtain ⟨l, hl, e⟩ := hm
      have hno := isr_no hw hc hr (plc l)
      cases e2 : m.rs (plc l) with
      | none => rw [e2] at e; have e' : (-1 : Int) = (i : Int) := e; omega
      | some k =>
        rw [e2] at e
        have e' : (k : Int) = (i : Int) := e
        have : k = i := by omega
        subst this
        exact absurd e2 hno
theorem RelP.dec (h : RelP m p) (hw : McW m) {l : Int} (h0 : valL m.vs l = 0) : RelP (decM m l) { p with tr := p.tr ++ [l], rs := p.rs ++ [-1], st := p.st ++ [p.tr.length] } where
  n := h.n
  tr := by show p.tr ++ [l] = m.tr ++ [l]; rw [h.tr]
  st := by show p.st ++ [p.tr.length] = m.st ++ [m.tr.length]; rw [h.tr, h.st]
  rs := by
    show p.rs ++ [-1] = (m.tr ++ [l]).map fun k => rsI (upd m.rs (plc l) none (plc k))
    rw [List.map_append, h.rs]
    congr 1
    · exact List.map_congr_left fun k hk => by rw [upd_ne _ _ (hw.unk h0 k hk)]
    · show _ = [rsI (upd m.rs (plc l) none (plc l))]
      rw [upd_same]; rfl
  len := h.len
  cl := h.cl
theorem RelP.decOk (h : RelP m p) (hw : McW m) (l : Int) : decOk p l = decB m l := by
  unfold Go.Proofs.Ytjlmooimdogmjaa.decOk decB
  rw [h.val hw, h.n]
  have : isM m.n l = decide (1 ≤ plc l ∧ plc l ≤ m.n) := by
    rw [Bool.eq_iff_iff, isM_iff, decide_eq_true_iff]
  rw [this]
  rfl
theorem RelP.back (h : RelP m p) (hw : McW m) {mj : Mc} {k : Nat} (hk : k < m.st.length) (hb : BkI m (m.st.getD k 0) m.tr.length mj) : RelP (cutM mj (m.st.getD k 0) k) { p with tr := p.tr.take (m.st.getD k 0), rs := p.rs.take (m.st.getD k 0), st := p.st.take k } where
  n := by show p.n = mj.n; rw [hb.en]; exact h.n
  tr := by show p.tr.take _ = mj.tr.take _; rw [hb.etr, h.tr]
  st := by show p.st.take _ = mj.st.take _; rw [hb.est, h.st]
  rs := by
    show p.rs.take _ = (mj.tr.take _).map fun l => rsI (mj.rs (plc l))
    rw [hb.etr, h.rs, ← List.map_take]
    refine List.map_congr_left fun l hl => ?_
    obtain ⟨i, hi, hit, e⟩ := tr_of_take hl
    have hn : ¬ OnTr m (m.st.getD k 0) m.tr.length (plc l) := fun ⟨q, h1, h2, h3, h4⟩ => by
      rw [← e] at h4
      have := hw.at_one h3 hi h4
      omega
    rw [hb.rs2 _ hn]
  len := by show p.cl.length = mj.nx; rw [hb.enx]; exact h.len
  cl := fun i => by show (mj.cl i = none ∧ p.cl.getD i none = none) ∨ ∃ c d, mj.cl i = some c ∧ p.cl.getD i none = some d ∧ d.Perm c; rw [hb.ecl]; exact h.cl i
theorem dropM_eq (h : McI m) {i : Nat} {c : List Int} (hc : m.cl i = some c) : (dropM m i c).n = m.n ∧ (dropM m i c).tr = m.tr ∧ (dropM m i c).st = m.st ∧ (dropM m i c).rs = m.rs ∧ (dropM m i c).nx = m.nx ∧ (dropM m i c).cl = upd m.cl i none := by
  have hl0 : McL { m with mp := upd m.mp i false, td := m.td.erase i } (· ∈ m.td) := { h.l with tdn := h.l.tdn.erase _, tdF := fun j hj => ⟨List.mem_of_mem_erase hj, (h.l.tdF j (List.mem_of_mem_erase hj)).2⟩ }
  have u := unwM_spec hl0 hc
  unfold dropM
  rw [u.eq]
  exact ⟨rfl, rfl, rfl, rfl, rfl, rfl⟩
/-- What Propagate leaves, read so. -/
theorem RelP.prop (h : RelP m p) (hx : McX m m') (hI : McI m') : ∃ p', RelP m' p' ∧ p'.n = p.n ∧ p'.cl = p.cl ∧ p'.st = p.st ∧ ∃ a q, p'.tr = p.tr ++ a ∧ p'.rs = p.rs ++ q := by
  obtain ⟨e, he⟩ := hx.tr
  refine ⟨⟨p.n, p.cl, m'.tr, m'.tr.map fun l => rsI (m'.rs (plc l)), p.st⟩, ⟨by rw [hx.n]; exact h.n, rfl, by rw [hx.st]; exact h.st, rfl, by rw [hx.nx]; exact h.len, fun i => ?_⟩, rfl, rfl, rfl, e, e.map fun l => rsI (m'.rs (plc l)), by rw [he, h.tr], ?_⟩
  · show (m'.cl i = none ∧ p.cl.getD i none = none) ∨ ∃ c d, m'.cl i = some c ∧ p.cl.getD i none = some d ∧ d.Perm c
    rcases hx.cl i with ⟨h1, h2⟩ | ⟨c, d, h1, h2, h3⟩
    · left
      rcases h.cl i with ⟨_, k2⟩ | ⟨c, d, k1, _⟩
      · exact ⟨h2, k2⟩
      · rw [h1] at k1; cases k1
    · obtain ⟨d', k1, k2⟩ := h.of h1
      exact .inr ⟨d, d', h2, k1, k2.trans h3.symm⟩
  · show m'.tr.map _ = p.rs ++ _
    rw [he, List.map_append, h.rs]
    congr 1
    exact List.map_congr_left fun l hl => by rw [hx.rs l hl]
theorem RelP.cld (h : RelP m p) (hI : McI m) (h1 : m.told = m.tr.length) (h2 : m.td = []) : CldP p := by
  intro d hd
  obtain ⟨k, hk⟩ := mem_clsP.1 hd
  obtain ⟨c, hc, hp⟩ := h.inv hk
  have hs := hI.s k (by rw [h2]; exact nofun) c hc
  rw [h.tr]
  have ht : m.tr.take m.told = m.tr := by rw [h1]; exact List.take_of_length_le (Nat.le_refl _)
  match c, hc, hp, hs with
  | [], _, _, hs => exact hs.elim
  | [a], _, hp, hs => exact .inl ⟨a, hp.mem_iff.2 (by simp), hs.1⟩
  | a :: b :: r, hc, hp, hs =>
    have hs' : -a ∉ m.tr.take m.told ∧ _ ∧ (-b ∈ m.tr.take m.told → a ∈ m.tr) := hs
    rw [ht] at hs'
    obtain ⟨k1, _, k2⟩ := hs'
    by_cases hb : -b ∈ m.tr
    · exact .inl ⟨a, hp.mem_iff.2 (by simp), k2 hb⟩
    · have hnd := (hI.w.cls k _ hc).2.1
      refine .inr ⟨a, hp.mem_iff.2 (by simp), b, hp.mem_iff.2 (by simp), fun e => ?_, k1, hb⟩
      subst e
      simp at hnd
end
end Go.Proofs.Ytjlmooimdogmjaa
