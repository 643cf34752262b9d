/- The contract of prop's loosen. Conditions: the prop lies in memory as 'MA' says; what its lists, and the list handed in, name is there. · What the program's calls keep, purely: other orders of a clause's literals, what 'only' does, taking clauses out of the lists. No conditions beyond those typed. -/
import Derived.Test.YtjlmooimdogmjaaLg13
set_option linter.unusedVariables false
set_option linter.unusedSimpArgs false
namespace Go.Proofs.Ytjlmooimdogmjaa
open Go.RowKit

def unwA (m : Mc) (xs : List Nat) : Mc := xs.foldl (fun m i => unwM m i ((m.cl i).getD [])) m
def looM (m : Mc) (xs : List Nat) : Mc := { unwA m xs with td := m.td ++ xs }
theorem unwM_keep (m : Mc) (i : Nat) (c : List Int) : (unwM m i c).cl = m.cl ∧ (unwM m i c).n = m.n := fold_cl i _ m
theorem fold_td (i : Nat) : ∀ (c : List Int) (m : Mc), (c.foldl (fun m l => eraseM m i l) m).td = m.td
  | [], _ => rfl
  | l :: c, m => fold_td i c (eraseM m i l)
theorem unwA_keep : ∀ (xs : List Nat) (m : Mc), (unwA m xs).cl = m.cl ∧ (unwA m xs).n = m.n ∧ (unwA m xs).td = m.td
  | [], _ => ⟨rfl, rfl, rfl⟩
  | i :: xs, m => by
    obtain ⟨h1, h2, h3⟩ := unwA_keep xs (unwM m i ((m.cl i).getD []))
    obtain ⟨k1, k2⟩ := unwM_keep m i ((m.cl i).getD [])
    exact ⟨h1.trans k1, h2.trans k2, h3.trans (fold_td i _ m)⟩
theorem unwA_lst : ∀ (xs : List Nat) (m : Mc), Lst m → Lst (unwA m xs)
  | [], _, h => h
  | i :: xs, m, h => unwA_lst xs _ (fold_lst i _ m h)
theorem unwA_snoc (m : Mc) (xs : List Nat) (k : Nat) (hk : k < xs.length) : unwA m (xs.take (k + 1)) = unwM (unwA m (xs.take k)) (xs.getD k 0) (((unwA m (xs.take k)).cl (xs.getD k 0)).getD []) := by
  unfold unwA
  rw [List.take_succ_eq_append_getElem hk, List.foldl_append]
  simp [List.getD, hk]
/-- A row of clauses beside the prop. -/
def LocR (ρ : Nat → Option Rl) (w : World) (L : Lay) (v : Value) (xs : List Nat) : Prop := w.ownsRow 0 68 1 v xs.length (xs.map (ptrC L)) ∧ ∀ k, v.ownBlock = some k → ρ k = none
section
variable {w w' : World} {ρ ρ' : Nat → Option Rl} {L L' : Lay} {m : Mc}
theorem LocR.keep {v : Value} {xs : List Nat} (h : LocR ρ w L v xs) (hc : Chr ρ w ρ' w') : LocR ρ' w' L v xs := by
  obtain ⟨⟨h1, h2⟩, h3⟩ := h
  rcases h2 with h2 | ⟨g, cap, cur, hv, hg, hh, q⟩
  · exact ⟨⟨h1, .inl h2⟩, fun k hk => by rw [h2.1] at hk; cases hk⟩
  · have hr := h3 g (by rw [hv]; rfl)
    have hlt : g < w.heap.size := by
      rcases Nat.lt_or_ge g w.heap.size with h' | h'
      · exact h'
      · rw [Array.getElem?_eq_none h'] at hh; cases hh
    refine ⟨⟨h1, .inr ⟨g, cap, cur, hv, hg, (hc.block g hlt hr).trans hh, q⟩⟩, fun k hk => ?_⟩
    rw [hv] at hk
    obtain rfl : g = k := by simpa [Value.ownBlock] using hk
    exact hc.old g hlt hr
theorem LocR.lay {v : Value} {xs : List Nat} (h : LocR ρ w L v xs) (he : LayE L L') : LocR ρ w L' v xs := by
  have : ptrC L' = ptrC L := funext fun i => he.ptr i
  unfold LocR
  rw [this]; exact h

set_option maxRecDepth 8000 in
set_option maxHeartbeats 8000000 in
theorem mloo_any (h : MA w ρ L m) (v : Value) (xs : List Nat) (hv : LocR ρ w L v xs) (hx : ∀ x ∈ xs, ∃ c, m.cl x = some c) (hl : ∀ x c, m.cl x = some c → (∀ l ∈ c, plc l ≤ m.n) ∧ c.length ≤ 1000000) (hn : m.n ≤ 4000) (hL : Lst m) (hxs : xs.length ≤ 1000000000) (htd : m.td.length ≤ 1000000000) :
    Calls Try.prog 43 #[ptrP L, v] w fun e w' => e = .returned (.tuple #[]) ∧ ∃ ρ', Chr ρ w ρ' w' ∧ ∃ L', LayU L L' ∧ MA w' ρ' L' (looM m xs) := by
  have HA := Lib.hid h
  have HV := Lib.hid hv
  have HX := Lib.hid hx
  have HL := Lib.hid hl
  have HLS := Lib.hid hL
  obtain ⟨sa, sc, rfl, _⟩ := own_shape hv.1
  clear h hv hx hl hL
  unfold ptrP
  generalize hN : xs.length = N at *
  have HN := Lib.hid hN
  clear hN
  go_enter Try.func43, Try.ntmps43
  go_wp2_with fail
  go_loopw [5, 8] (fun _ u8 wr => ∃ (k : Nat) (ρ' : Nat → Option Rl) (L' : Lay), k ≤ N ∧ u8 = .int .i64 (k : Int) ∧ Chr ρ w ρ' wr ∧ LayU L L' ∧ MA wr ρ' L' (unwA m (xs.take k))) (fun _ u8 _ => N - (intOf u8).toNat)
  case atStart => exact ⟨0, ρ, L, Nat.zero_le _, rfl, Chr.refl _ _, LayU.refl _, HA.out⟩
  case round =>
    obtain ⟨k, ρ1, L1, hk1, rfl, hC, hE, hM⟩ := hrel
    have HC := Lib.hid hC
    have HE := Lib.hid hE
    have hloc := HV.out.keep hC
    by_cases hk : k < N
    · have hkx : k < xs.length := by rw [HN.out]; exact hk
      obtain ⟨g, cap, e⟩ := own_at hloc.1 (by omega)
      rw [HN.out] at e
      injection e with e1 _ e3
      subst e1; subst e3
      have ho := hloc.1
      rw [HN.out] at ho
      have x1 := own_cell ho (i := k) (u := ptrC L (xs.getD k 0)) (by rw [List.getElem?_map]; simp [List.getD, hkx])
      obtain ⟨ecl, en, _⟩ := unwA_keep (xs.take k) m
      have HS := Lib.hid (unwA_snoc m xs k hkx)
      obtain ⟨c, hc⟩ := HX.out (xs.getD k 0) (by rw [show xs.getD k 0 = xs[k] by simp [List.getD, hkx]]; exact List.getElem_mem hkx)
      have hc1 : (unwA m (xs.take k)).cl (xs.getD k 0) = some c := by rw [ecl]; exact hc
      rw [hc1, Option.getD_some] at HS
      have HU := Lib.hid (munw_any hM (xs.getD k 0) c hc1 (by rw [en]; exact (HL.out _ _ hc).1) (by rw [en]; exact hn) (HL.out _ _ hc).2 (unwA_lst _ _ HLS.out))
      unfold ptrP at HU
      rw [hE.p, hE.ptr] at HU
      have HPC : Hid (ptrC L (xs.getD k 0) = .pointer (some ⟨L.cb (xs.getD k 0), 0, none⟩)) := rfl
      rw [HPC.out] at x1 HU
      clear hC hE hM hloc ho ecl en hc hc1 hkx
      generalize L.cb (xs.getD k 0) = b at *
      go_wp2_with fail
      refine HU.out.mono ?_
      rintro e w2 ⟨rfl, ρ2, hC2, L2, hE2, hM2⟩
      rw [← HS.out] at hM2
      have HC2 := Lib.hid (HC.out.trans hC2)
      have HE2 := Lib.hid (HE.out.trans hE2)
      have HM2 := Lib.hid hM2
      clear hC2 hE2 hM2 HU
      go_wp2_with fail
      go_roundw
      case rel => exact ⟨k + 1, ρ2, L2, by omega, by go_num, HC2.out, HE2.out, HM2.out⟩
      case measure => go_light; simp [intOf]; omega
    · have hd : ¬ k < N := hk
      have hkN : k = N := by omega
      rw [hkN, ← HN.out, List.take_of_length_le (Nat.le_refl _)] at hM
      obtain ⟨_, _, etd⟩ := unwA_keep xs m
      have HLOC := Lib.hid hloc.1
      have c7 := hM.pc.c7
      rw [hE.p] at c7
      have htd1 := hM.own_td
      have hpf : ptrC L1 = ptrC L := funext fun i => hE.ptr i
      rw [etd] at htd1
      have HM := Lib.hid hM
      have HTD := Lib.hid htd1
      have HPF := Lib.hid hpf
      have HETD := Lib.hid etd
      clear hM hkN hk hC htd1 etd hloc hpf
      have hcs : Hid (xs.length = 0 ∨ ∃ ad, sa = some ad ∧ ∀ j u, (xs.map (ptrC L))[j]? = some u → wr.cell? (ad.add j) = some u) := by
        rcases HLOC.out.2 with ⟨e0, e1⟩ | ⟨g, cap, cur, e0, _⟩
        · exact .inl e1
        · injection e0 with e1 _ e3
          refine .inr ⟨_, e1, fun j u hj => ?_⟩
          subst e1
          exact HLOC.out.cells (g := g) rfl j u hj
      go_wp2_with (at_builtin; refine wpList_appC 65 68 (.pointer none) 1 8 Try.underlying65 infoPc rfl (by decide) (by decide) rfl _ _ rfl wr 0 L1.tdv m.td.length _ sa N sc (xs.map (ptrC L)) HTD.out (Nat.zero_le _) (by omega) (by rw [List.length_map, HN.out, Nat.mul_one]) (by rw [← HN.out]; exact hcs.out) (fun u hu => by obtain ⟨y, _, rfl⟩ := List.mem_map.1 hu; rfl) rfl rfl ?_; intro v5 w5 hown5 hap5; obtain ⟨a5, k5, rfl, _⟩ := own_shape hown5; rw [← HPF.out, ← List.map_append] at hown5; obtain ⟨ρ5, hM5, hC5, c5, f5⟩ := HM.out.tdApp hap5 hown5; rw [HE.out.p] at hM5 hC5 c5 f5; have HM5 := Lib.hid hM5; have HC5 := Lib.hid hC5; clear hM5 hC5 hown5 hap5)
      (try simp only [Exit.inBlock, Exit.then])
      refine bodyPost_end (results_none rfl _ _ _) rfl ?_
      refine ⟨rfl, ρ5, HC.out.trans HC5.out, _, ?_, HM5.out⟩
      exact ⟨⟨rfl, HE.out.cb, HE.out.cv, HE.out.vb⟩, HE.out.trv, HE.out.stv⟩

end
end Go.Proofs.Ytjlmooimdogmjaa

namespace Go.Proofs.Ytjlmooimdogmjaa
open Go.RowKit

section
variable {m : Mc}
/-! ### Another order -/
theorem McW.putCl (h : McW m) {i : Nat} {c c' : List Int} (hc : m.cl i = some c) (hp : c'.Perm c) (hr : (∀ v, m.rs v ≠ some i) ∨ c'.head? = c.head?) : McW (putCl m i c') where
  n := h.n
  vl := h.vl
  vv := h.vv
  tv := h.tv
  one := h.one
  told := h.told
  sorted := h.sorted
  lt := h.lt
  lvl := h.lvl
  mps := fun j => by
    show m.mp j = (upd m.cl i (some c') j).isSome
    unfold upd
    split
    · rename_i e; rw [h.mps, e, hc]; rfl
    · exact h.mps j
  cls := fun j d hd => by
    have hd' : upd m.cl i (some c') j = some d := hd
    unfold upd at hd'
    split at hd'
    · rename_i e
      injection hd' with e2
      subst e; subst e2
      obtain ⟨h1, h2, h3⟩ := h.cls j c hc
      exact ⟨h1, hp.nodup_iff.2 h2, fun l hl => ⟨(h3 l (hp.mem_iff.1 hl)).1, fun hm => (h3 l (hp.mem_iff.1 hl)).2 (hp.mem_iff.1 hm)⟩⟩
    · exact h.cls j d hd'
  rs0 := h.rs0
  dec := h.dec
  rsn := fun p hp1 hp2 => by
    obtain ⟨k, c0, h1, h2, h3⟩ := h.rsn p hp1 hp2
    by_cases e : k = i
    · subst e
      rw [hc] at h2
      injection h2 with h2
      subst h2
      rcases hr with hr | hr
      · exact absurd h1 (hr _)
      · cases c' with
        | nil => simp at hr
        | cons a r =>
          have ea : a = m.tr.getD p 0 := by simpa using hr
          subst ea
          refine ⟨k, r, h1, upd_same _ _ _, fun l hl => h3 l ?_⟩
          exact (List.perm_cons _).1 hp |>.mem_iff.1 hl
    · exact ⟨k, c0, h1, (upd_ne _ _ e).trans h2, h3⟩
theorem Sm.putCl {t i j : Nat} {c : List Int} (h : Sm m t j) (hne : j ≠ i) : Sm (putCl m i c) t j := fun d hd => h d ((upd_ne m.cl (some c) hne).symm.trans hd)
/-- A clause that is not watched lies in another order. -/
theorem McL.putF {F : Nat → Prop} (h : McL m F) {i : Nat} {c c' : List Int} (hc : m.cl i = some c) (hF : F i) : McL (putCl m i c') F where
  tdn := h.tdn
  tdF := fun j hj => by
    obtain ⟨h1, d, h2⟩ := h.tdF j hj
    refine ⟨h1, ?_⟩
    by_cases e : j = i
    · subst e; exact ⟨c', upd_same _ _ _⟩
    · exact ⟨d, (upd_ne _ _ e).trans h2⟩
  ltN := h.ltN
  ltc := fun v j hj => by
    obtain ⟨h1, a, r, h2, h3⟩ := h.ltc v j hj
    exact ⟨h1, a, r, (upd_ne _ _ (fun e => h1 (by rw [e]; exact hF))).trans h2, h3⟩
  wtN := h.wtN
  wtc := fun v j hj => by
    obtain ⟨h1, a, b, r, h2, h3⟩ := h.wtc v j hj
    exact ⟨h1, a, b, r, (upd_ne _ _ (fun e => h1 (by rw [e]; exact hF))).trans h2, h3⟩
  wtd := fun j d hd hf => by
    have hne : j ≠ i := fun e => hf (e ▸ hF)
    exact h.wtd j d ((upd_ne m.cl (some c') hne).symm.trans hd) hf
theorem McL.cl_of_F {F : Nat → Prop} (h : McL m F) {i : Nat} (hF : F i) : (∀ j, i ∉ m.wt j) ∧ ∀ v, i ∉ m.lt v :=
  ⟨fun j hj => (h.wtc j i hj).1 hF, fun v hv => (h.ltc v i hv).1 hF⟩

/-! ### The last literal that is not false -/
structure OnlyS (m : Mc) (i : Nat) (a : Int) (o : Nat) (m' : Mc) : Prop where
  w : McW m'
  mem : a ∈ m'.tr
  tr : ∃ e, m'.tr = m.tr ++ e
  n : m'.n = m.n
  st : m'.st = m.st
  nx : m'.nx = m.nx
  mp : m'.mp = m.mp
  cl : m'.cl = m.cl
  wt : m'.wt = m.wt
  td : m'.td = m.td
  told : m'.told = m.told
  ltN : ∀ v, (m'.lt v).Nodup
  lt : ∀ v y, y ∈ m'.lt v ↔ y ∈ m.lt v ∨ (y = i ∧ v = plc a ∧ o < m'.lv (plc a))
  lv : ∀ l ∈ m.tr, m'.lv (plc l) = m.lv (plc l)
  rs : ∀ v k, m'.rs v = some k → m.rs v = some k ∨ k = i
  sm : ∀ t j, t ≤ m.tr.length → j ≠ i → Sm m t j → Sm m' t j
theorem onlyA_spec (h : McW m) {i : Nat} {a : Int} {r : List Int} (hc : m.cl i = some (a :: r)) (hv : valL m.vs a ≠ 2) (hr : ∀ x ∈ r, -x ∈ m.tr) :
    McW (onlyA m i a) ∧ a ∈ (onlyA m i a).tr ∧ (∃ e, (onlyA m i a).tr = m.tr ++ e) ∧ (∀ l ∈ m.tr, (onlyA m i a).lv (plc l) = m.lv (plc l)) ∧ (∀ v k, (onlyA m i a).rs v = some k → m.rs v = some k ∨ k = i) ∧ ∀ t j, t ≤ m.tr.length → Sm m t j → Sm (onlyA m i a) t j := by
  unfold onlyA
  have hra := ((h.cls i _ hc).2.2 a (by simp)).1
  by_cases h0 : valL m.vs a = 0
  · rw [if_pos h0]
    have hw : McW (setM m a (some i)) := h.setG hra h0 (.inl ⟨rfl, i, r, rfl, hc, hr⟩)
    refine ⟨hw, by show a ∈ m.tr ++ [a]; simp, ⟨[a], rfl⟩, fun l hl => upd_ne _ _ (h.unk h0 l hl), fun v k hk => ?_, fun t j ht hs => hs.setG h ht h0 _ _⟩
    have hk' : upd m.rs (plc a) (some i) v = some k := hk
    unfold upd at hk'
    split at hk'
    · injection hk' with e; exact .inr e.symm
    · exact .inl hk'
  · rw [if_neg h0]
    have ha : a ∈ m.tr := by
      rcases h.vv.val a with e | e | e
      · exact absurd e h0
      · exact (h.tv a).1 e
      · exact absurd e hv
    exact ⟨h, ha, ⟨[], by simp⟩, fun _ _ => rfl, fun v k hk => .inl hk, fun _ _ _ hs => hs⟩
theorem onlyA_same (i : Nat) (a : Int) : (onlyA m i a).st = m.st ∧ (onlyA m i a).nx = m.nx ∧ (onlyA m i a).mp = m.mp ∧ (onlyA m i a).wt = m.wt ∧ (onlyA m i a).td = m.td ∧ (onlyA m i a).told = m.told := by
  unfold onlyA; split <;> exact ⟨rfl, rfl, rfl, rfl, rfl, rfl⟩
theorem McW.lists (h : McW m) {wt lt : Nat → List Nat} {td : List Nat} : McW { m with wt := wt, lt := lt, td := td } :=
  ⟨h.n, h.vl, h.vv, h.tv, h.one, h.told, h.sorted, h.lt, h.lvl, h.mps, h.cls, h.rs0, h.dec, h.rsn⟩
theorem Sm.lt' {t j : Nat} (h : Sm m t j) {wt lt : Nat → List Nat} {td : List Nat} (hl : ∀ v, j ∈ lt v ↔ j ∈ m.lt v) : Sm { m with wt := wt, lt := lt, td := td } t j := fun c hc => by
  have := h c hc
  match c, this with
  | [a], ⟨h1, h2⟩ => exact ⟨h1, (hl _).trans h2⟩
  | a :: b :: _, ⟨h1, h2, h3⟩ => exact ⟨h1, (hl _).trans h2, h3⟩
theorem onlyM_spec (h : McW m) {i : Nat} {a : Int} {r : List Int} (hc : m.cl i = some (a :: r)) (hv : valL m.vs a ≠ 2) (hr : ∀ x ∈ r, -x ∈ m.tr) (o : Nat) (hN : ∀ v, (m.lt v).Nodup) (hi : i ∉ m.lt (plc a)) : OnlyS m i a o (onlyM m i a o) := by
  obtain ⟨w1, a1, tr1, lv1, rs1, sm1⟩ := onlyA_spec h hc hv hr
  obtain ⟨s1, s2, s3, s4, s5, s6⟩ := onlyA_same (m := m) i a
  have s7 := onlyA_lt m i a
  have s8 := onlyA_cl m i a
  have s9 := onlyA_n m i a
  unfold onlyM
  by_cases hlt : o < (onlyA m i a).lv (plc a)
  · rw [if_pos hlt]
    have hmem : ∀ v y, y ∈ upd (onlyA m i a).lt (plc a) ((onlyA m i a).lt (plc a) ++ [i]) v ↔ y ∈ m.lt v ∨ (y = i ∧ v = plc a) := fun v y => by
      rw [s7]
      unfold upd
      split
      · rename_i e
        rw [List.mem_append, List.mem_singleton, e]; simp
      · rename_i e; simp [e]
    refine { w := w1.lists, mem := a1, tr := tr1, n := s9, st := s1, nx := s2, mp := s3, cl := s8, wt := s4, td := s5, told := s6, ltN := fun v => ?_, lt := fun v y => ?_, lv := lv1, rs := rs1, sm := fun t j ht hj hs => ?_ }
    · show (upd (onlyA m i a).lt (plc a) ((onlyA m i a).lt (plc a) ++ [i]) v).Nodup
      rw [s7]
      unfold upd
      split
      · rw [List.nodup_append]
        exact ⟨hN _, by simp, fun x hx y hy => by simp at hy; subst hy; exact fun e => hi (e ▸ hx)⟩
      · exact hN v
    · rw [hmem]
      show _ ↔ y ∈ m.lt v ∨ (y = i ∧ v = plc a ∧ o < (onlyA m i a).lv (plc a))
      simp [hlt]
    · refine (sm1 t j ht hs).lt' fun v => ?_
      rw [hmem, s7]
      simp [hj]
  · rw [if_neg hlt]
    refine { w := w1, mem := a1, tr := tr1, n := s9, st := s1, nx := s2, mp := s3, cl := s8, wt := s4, td := s5, told := s6, ltN := fun v => by rw [s7]; exact hN v, lt := fun v y => ?_, lv := lv1, rs := rs1, sm := fun t j ht _ hs => sm1 t j ht hs }
    rw [s7]
    simp [hlt]

/-! ### Out of the lists -/
theorem mem_eraseN {xs : List Nat} (h : xs.Nodup) {i y : Nat} : y ∈ xs.erase i ↔ y ≠ i ∧ y ∈ xs := h.mem_erase_iff
theorem eraseM_wt (hN : ∀ j, (m.wt j).Nodup) (i : Nat) (l : Int) (j y : Nat) : y ∈ (eraseM m i l).wt j ↔ y ∈ m.wt j ∧ ¬(y = i ∧ j = wx l) := by
  show y ∈ upd m.wt (wx l) ((m.wt (wx l)).erase i) j ↔ _
  unfold upd
  split
  · rename_i e
    rw [mem_eraseN (hN _), e]
    simp
    exact ⟨fun ⟨a, b⟩ => ⟨b, a⟩, fun ⟨a, b⟩ => ⟨b, a⟩⟩
  · rename_i e; simp [e]
theorem eraseM_lt (hN : ∀ j, (m.lt j).Nodup) (i : Nat) (l : Int) (v y : Nat) : y ∈ (eraseM m i l).lt v ↔ y ∈ m.lt v ∧ ¬(y = i ∧ v = plc l) := by
  show y ∈ upd m.lt (plc l) ((m.lt (plc l)).erase i) v ↔ _
  unfold upd
  split
  · rename_i e
    rw [mem_eraseN (hN _), e]
    simp
    exact ⟨fun ⟨a, b⟩ => ⟨b, a⟩, fun ⟨a, b⟩ => ⟨b, a⟩⟩
  · rename_i e; simp [e]
theorem eraseM_N (hw : ∀ j, (m.wt j).Nodup) (hl : ∀ j, (m.lt j).Nodup) (i : Nat) (l : Int) : (∀ j, ((eraseM m i l).wt j).Nodup) ∧ ∀ j, ((eraseM m i l).lt j).Nodup :=
  ⟨fun j => by
    show (upd m.wt (wx l) ((m.wt (wx l)).erase i) j).Nodup
    unfold upd; split
    · exact (hw _).erase _
    · exact hw j, fun j => by
    show (upd m.lt (plc l) ((m.lt (plc l)).erase i) j).Nodup
    unfold upd; split
    · exact (hl _).erase _
    · exact hl j⟩
/-- What taking a clause out leaves. -/
structure UnwS (m : Mc) (X : Nat → Prop) (m' : Mc) : Prop where
  eq : m' = { m with wt := m'.wt, lt := m'.lt }
  wN : ∀ j, (m'.wt j).Nodup
  lN : ∀ j, (m'.lt j).Nodup
  wt : ∀ j y, y ∈ m'.wt j ↔ y ∈ m.wt j ∧ ¬ X y
  lt : ∀ j y, y ∈ m'.lt j ↔ y ∈ m.lt j ∧ ¬ X y
theorem unwM_spec {F : Nat → Prop} (h : McL m F) {i : Nat} {c : List Int} (hc : m.cl i = some c) : UnwS m (· = i) (unwM m i c) := by
  have hN := eraseM_N h.wtN h.ltN i
  unfold unwM
  have hw : ∀ j y, y ∈ m.wt j → y = i → ∃ a b r, c = a :: b :: r ∧ (j = wx a ∨ j = wx b) := fun j y hy e => by
    subst e
    obtain ⟨_, a, b, r, h1, h2⟩ := h.wtc j y hy
    rw [hc] at h1
    injection h1 with h1
    exact ⟨a, b, r, h1, h2⟩
  have hl : ∀ j y, y ∈ m.lt j → y = i → ∃ a r, c = a :: r ∧ plc a = j := fun j y hy e => by
    subst e
    obtain ⟨_, a, r, h1, h2, _⟩ := h.ltc j y hy
    rw [hc] at h1
    injection h1 with h1
    exact ⟨a, r, h1, h2⟩
  match c, hw, hl with
  | [], hw, hl =>
    refine ⟨rfl, h.wtN, h.ltN, fun j y => ⟨fun hy => ⟨hy, fun e => ?_⟩, fun hy => hy.1⟩, fun j y => ⟨fun hy => ⟨hy, fun e => ?_⟩, fun hy => hy.1⟩⟩
    · obtain ⟨_, _, _, e', _⟩ := hw j y hy e; cases e'
    · obtain ⟨_, _, e', _⟩ := hl j y hy e; cases e'
  | [a], hw, hl =>
    refine ⟨rfl, (hN a).1, (hN a).2, fun j y => ?_, fun j y => ?_⟩
    · show y ∈ (eraseM m i a).wt j ↔ _
      rw [eraseM_wt h.wtN]
      refine ⟨fun ⟨h1, _⟩ => ⟨h1, fun e => ?_⟩, fun ⟨h1, h2⟩ => ⟨h1, fun e => h2 e.1⟩⟩
      obtain ⟨_, _, _, e', _⟩ := hw j y h1 e; cases e'
    · show y ∈ (eraseM m i a).lt j ↔ _
      rw [eraseM_lt h.ltN]
      refine ⟨fun ⟨h1, h2⟩ => ⟨h1, fun e => h2 ⟨e, ?_⟩⟩, fun ⟨h1, h2⟩ => ⟨h1, fun e => h2 e.1⟩⟩
      obtain ⟨_, _, e', e2⟩ := hl j y h1 e
      injection e' with e' _
      subst e'; exact e2.symm
  | a :: b :: r, hw, hl =>
    obtain ⟨n1, n2⟩ := hN a
    refine ⟨rfl, (eraseM_N n1 n2 i b).1, (eraseM_N n1 n2 i b).2, fun j y => ?_, fun j y => ?_⟩
    · show y ∈ (eraseM (eraseM m i a) i b).wt j ↔ _
      rw [eraseM_wt n1, eraseM_wt h.wtN]
      refine ⟨fun ⟨⟨h1, h2⟩, h3⟩ => ⟨h1, fun e => ?_⟩, fun ⟨h1, h2⟩ => ⟨⟨h1, fun e => h2 e.1⟩, fun e => h2 e.1⟩⟩
      obtain ⟨_, _, _, e', e2⟩ := hw j y h1 e
      injection e' with e1 e'
      injection e' with e3 _
      subst e1; subst e3
      exact e2.elim (fun e2 => h2 ⟨e, e2⟩) (fun e2 => h3 ⟨e, e2⟩)
    · show y ∈ (eraseM (eraseM m i a) i b).lt j ↔ _
      rw [eraseM_lt n2, eraseM_lt h.ltN]
      refine ⟨fun ⟨⟨h1, h2⟩, h3⟩ => ⟨h1, fun e => ?_⟩, fun ⟨h1, h2⟩ => ⟨⟨h1, fun e => h2 e.1⟩, fun e => h2 e.1⟩⟩
      obtain ⟨_, _, e', e2⟩ := hl j y h1 e
      injection e' with e1 _
      subst e1
      exact h2 ⟨e, e2.symm⟩
theorem UnwS.lists {F X : Nat → Prop} {m' : Mc} (u : UnwS m X m') (h : McL m F) (hX : ∀ i ∈ m.td, ¬ X i) : McL m' (fun i => F i ∨ X i) where
  tdn := by rw [u.eq]; exact h.tdn
  tdF := fun i hi => by
    rw [u.eq] at hi ⊢
    exact ⟨.inl (h.tdF i hi).1, (h.tdF i hi).2⟩
  ltN := u.lN
  ltc := fun v i hi => by
    rw [u.lt] at hi
    obtain ⟨h1, a, r, h2, h3, h4⟩ := h.ltc v i hi.1
    exact ⟨fun hf => hf.elim h1 hi.2, a, r, by rw [u.eq]; exact h2, h3, by rw [u.eq]; exact h4⟩
  wtN := u.wN
  wtc := fun j i hi => by
    rw [u.wt] at hi
    obtain ⟨h1, a, b, r, h2, h3⟩ := h.wtc j i hi.1
    exact ⟨fun hf => hf.elim h1 hi.2, a, b, r, by rw [u.eq]; exact h2, h3⟩
  wtd := fun i c hc hf => by
    rw [u.eq] at hc
    obtain ⟨h1, h2⟩ := h.wtd i c hc (fun hf' => hf (.inl hf'))
    refine ⟨h1, fun a b r e => ?_⟩
    obtain ⟨h3, h4⟩ := h2 a b r e
    rw [u.wt, u.wt]
    exact ⟨⟨h3, fun hx => hf (.inr hx)⟩, ⟨h4, fun hx => hf (.inr hx)⟩⟩
theorem UnwS.refl (hw : ∀ j, (m.wt j).Nodup) (hl : ∀ j, (m.lt j).Nodup) : UnwS m (fun _ => False) m := ⟨rfl, hw, hl, fun _ _ => by simp, fun _ _ => by simp⟩
theorem UnwS.trans {m1 m2 : Mc} {X Y : Nat → Prop} (h : UnwS m X m1) (k : UnwS m1 Y m2) : UnwS m (fun i => X i ∨ Y i) m2 where
  eq := by rw [k.eq, h.eq]
  wN := k.wN
  lN := k.lN
  wt := fun j y => by rw [k.wt, h.wt, not_or]; exact ⟨fun ⟨⟨a, b⟩, c⟩ => ⟨a, b, c⟩, fun ⟨a, b, c⟩ => ⟨⟨a, b⟩, c⟩⟩
  lt := fun j y => by rw [k.lt, h.lt, not_or]; exact ⟨fun ⟨⟨a, b⟩, c⟩ => ⟨a, b, c⟩, fun ⟨a, b, c⟩ => ⟨⟨a, b⟩, c⟩⟩
theorem UnwS.congr {m1 : Mc} {X Y : Nat → Prop} (h : UnwS m X m1) (e : ∀ i, X i ↔ Y i) : UnwS m Y m1 :=
  ⟨h.eq, h.wN, h.lN, fun j y => by rw [h.wt, e], fun j y => by rw [h.lt, e]⟩
theorem unwA_spec : ∀ (xs : List Nat) {m : Mc} {F : Nat → Prop}, McL m F → (∀ i ∈ xs, i ∉ m.td) → (∀ i ∈ xs, ∃ c, m.cl i = some c) → UnwS m (· ∈ xs) (unwA m xs)
  | [], m, F, h, _, _ => (UnwS.refl h.wtN h.ltN).congr fun i => by simp
  | x :: xs, m, F, h, h1, h2 => by
    obtain ⟨c, hc⟩ := h2 x (by simp)
    have u := unwM_spec h hc
    have hl := u.lists h (fun i hi e => h1 x (by simp) (e ▸ hi))
    obtain ⟨k1, _⟩ := unwM_keep m x c
    have htd : (unwM m x c).td = m.td := fold_td x _ m
    have := unwA_spec xs hl (fun i hi => by rw [htd]; exact h1 i (by simp [hi])) (fun i hi => by rw [k1]; exact h2 i (by simp [hi]))
    have e : unwA m (x :: xs) = unwA (unwM m x c) xs := by unfold unwA; rw [List.foldl_cons, hc]; rfl
    rw [e]
    exact (u.trans this).congr fun i => by simp
/-- Put among those that are to be looked at. -/
theorem McL.loosen {F : Nat → Prop} (h : McL m F) {xs : List Nat} (h0 : xs.Nodup) (h1 : ∀ i ∈ xs, i ∉ m.td) (h2 : ∀ i ∈ xs, ∃ c, m.cl i = some c) : McL (looM m xs) (fun i => F i ∨ i ∈ xs) := by
  have u := unwA_spec xs h h1 h2
  have hl := u.lists h (fun i hi hx => h1 i hx hi)
  obtain ⟨k1, _, k3⟩ := unwA_keep xs m
  refine { hl with tdn := ?_, tdF := fun i hi => ?_ }
  · show (m.td ++ xs).Nodup
    rw [List.nodup_append]
    exact ⟨h.tdn, h0, fun x hx y hy e => h1 y hy (e ▸ hx)⟩
  · have hi' : i ∈ m.td ++ xs := hi
    rw [List.mem_append] at hi'
    show _ ∧ ∃ c, (unwA m xs).cl i = some c
    rw [k1]
    rcases hi' with hi' | hi'
    · exact ⟨.inl (h.tdF i hi').1, (h.tdF i hi').2⟩
    · exact ⟨.inr hi', h2 i hi'⟩
theorem looM_eq {F : Nat → Prop} (h : McL m F) {xs : List Nat} (h1 : ∀ i ∈ xs, i ∉ m.td) (h2 : ∀ i ∈ xs, ∃ c, m.cl i = some c) : looM m xs = { m with wt := (unwA m xs).wt, lt := (unwA m xs).lt, td := m.td ++ xs } := by
  have u := unwA_spec xs h h1 h2
  have := u.eq
  unfold looM
  rw [this]
theorem Sm.loosen {F : Nat → Prop} (h : McL m F) {xs : List Nat} (h1 : ∀ i ∈ xs, i ∉ m.td) (h2 : ∀ i ∈ xs, ∃ c, m.cl i = some c) {t j : Nat} (hs : Sm m t j) (hj : j ∉ xs) : Sm (looM m xs) t j := by
  rw [looM_eq h h1 h2]
  refine hs.lt' fun v => ?_
  rw [(unwA_spec xs h h1 h2).lt]
  simp [hj]
end
end Go.Proofs.Ytjlmooimdogmjaa
