/- The contract of prop's unwatch. Conditions: the prop lies in memory as 'MA' says; what its lists name is there. · Appends of any number of elements of any size, to a row of the call's own, as steps (as in the sixth stage's Brow). No conditions beyond those typed. -/
import Derived.Test.YtjlmooimdogmjaaLg12
import Derived.Test.YtjlmooimdogmjaaLg01
import Derived.Maps.AppendAt
set_option linter.unusedVariables false
set_option linter.unusedSimpArgs false
namespace Go.Proofs.Ytjlmooimdogmjaa
open Go.RowKit

/-- i is told by l no more, and late no more. -/
def eraseM (m : Mc) (i : Nat) (l : Int) : Mc := { m with wt := upd m.wt (wx l) ((m.wt (wx l)).erase i), lt := upd m.lt (plc l) ((m.lt (plc l)).erase i) }
def unwM (m : Mc) (i : Nat) (c : List Int) : Mc := (c.take 2).foldl (fun m l => eraseM m i l) m
/-- All that the lists name is there, and they are short. -/
structure Lst (m : Mc) : Prop where
  wt : ∀ j x, x ∈ m.wt j → ∃ c, m.cl x = some c
  lt : ∀ v x, x ∈ m.lt v → ∃ c, m.cl x = some c
  wl : ∀ j, (m.wt j).length ≤ 1000000000
  ll : ∀ v, (m.lt v).length ≤ 1000000000
theorem Lst.erase {m : Mc} (h : Lst m) (i : Nat) (l : Int) : Lst (eraseM m i l) where
  wt := fun j x hx => by
    have hx' : x ∈ upd m.wt (wx l) ((m.wt (wx l)).erase i) j := hx
    unfold upd at hx'
    split at hx'
    · exact h.wt _ x (List.mem_of_mem_erase hx')
    · exact h.wt _ x hx'
  lt := fun j x hx => by
    have hx' : x ∈ upd m.lt (plc l) ((m.lt (plc l)).erase i) j := hx
    unfold upd at hx'
    split at hx'
    · exact h.lt _ x (List.mem_of_mem_erase hx')
    · exact h.lt _ x hx'
  wl := fun j => by
    show (upd m.wt (wx l) ((m.wt (wx l)).erase i) j).length ≤ _
    unfold upd
    split
    · exact Nat.le_trans (List.length_erase_le) (h.wl _)
    · exact h.wl j
  ll := fun j => by
    show (upd m.lt (plc l) ((m.lt (plc l)).erase i) j).length ≤ _
    unfold upd
    split
    · exact Nat.le_trans (List.length_erase_le) (h.ll _)
    · exact h.ll j
theorem eraseM_cl (m : Mc) (i : Nat) (l : Int) : (eraseM m i l).cl = m.cl := rfl
theorem fold_cl (i : Nat) : ∀ (c : List Int) (m : Mc), (c.foldl (fun m l => eraseM m i l) m).cl = m.cl ∧ (c.foldl (fun m l => eraseM m i l) m).n = m.n
  | [], _ => ⟨rfl, rfl⟩
  | l :: c, m => fold_cl i c (eraseM m i l)
theorem fold_lst (i : Nat) : ∀ (c : List Int) (m : Mc), Lst m → Lst (c.foldl (fun m l => eraseM m i l) m)
  | [], _, h => h
  | l :: c, m, h => fold_lst i c (eraseM m i l) (h.erase i l)
theorem fold_snoc (i : Nat) (c : List Int) (k : Nat) (hk : k < c.length) (m : Mc) : (c.take (k + 1)).foldl (fun m l => eraseM m i l) m = eraseM ((c.take k).foldl (fun m l => eraseM m i l) m) i (c.getD k 0) := by
  rw [List.take_succ_eq_append_getElem hk, List.foldl_append]
  simp [List.getD, hk]

section
variable {w : World} {ρ : Nat → Option Rl} {L : Lay} {m : Mc}
theorem MA.inj (h : MA w ρ L m) {x i : Nat} {c d : List Int} (hx : m.cl x = some c) (hi : m.cl i = some d) (e : L.cb x = L.cb i) : x = i := by
  have h1 := (h.at' (.c x) c hx).1
  have h2 := (h.at' (.c i) d hi).1
  rw [e, h2] at h1
  injection h1 with h1
  injection h1 with h1
  exact h1.symm
theorem MA.blk (h : MA w ρ L m) {x : Nat} {c : List Int} (hx : m.cl x = some c) : ∃ cs T, w.heap[L.cb x]? = some (.cells cs T (0, 0)) := ⟨_, _, (h.at' (.c x) c hx).2⟩
theorem MA.own_w (h : MA w ρ L m) (j : Nat) : w.ownsRow 0 68 1 (L.wv j) (m.wt j).length ((m.wt j).map (ptrC L)) := by
  have := (h.at' (.w j)).1
  rwa [List.length_map] at this
theorem MA.own_l (h : MA w ρ L m) (j : Nat) : w.ownsRow 0 68 1 (L.lw j) (m.lt j).length ((m.lt j).map (ptrC L)) := by
  have := (h.at' (.l j)).1
  rwa [List.length_map] at this
theorem MA.own_td (h : MA w ρ L m) : w.ownsRow 0 68 1 L.tdv m.td.length (m.td.map (ptrC L)) := by
  have := (h.at' .td).1
  rwa [List.length_map] at this
/-- Of its layout these stay. -/
structure LayE (L L' : Lay) : Prop where
  p : L'.p = L.p
  cb : L'.cb = L.cb
  cv : L'.cv = L.cv
  vb : L'.vb = L.vb
theorem LayE.refl (L : Lay) : LayE L L := ⟨rfl, rfl, rfl, rfl⟩
theorem LayE.trans {L1 L2 L3 : Lay} (h : LayE L1 L2) (k : LayE L2 L3) : LayE L1 L3 := ⟨k.p.trans h.p, k.cb.trans h.cb, k.cv.trans h.cv, k.vb.trans h.vb⟩
/-- The trail's and the levels' rows, too. -/
structure LayU (L L' : Lay) : Prop extends LayE L L' where
  trv : L'.trv = L.trv
  stv : L'.stv = L.stv
theorem LayU.refl (L : Lay) : LayU L L := ⟨LayE.refl L, rfl, rfl⟩
theorem LayU.trans {L1 L2 L3 : Lay} (h : LayU L1 L2) (k : LayU L2 L3) : LayU L1 L3 := ⟨h.toLayE.trans k.toLayE, k.trv.trans h.trv, k.stv.trans h.stv⟩
theorem LayE.ptr {L L' : Lay} (h : LayE L L') (i : Nat) : ptrC L' i = ptrC L i := by unfold ptrC; rw [h.cb]

set_option maxRecDepth 8000 in
set_option maxHeartbeats 8000000 in
theorem munw_any (h : MA w ρ L m) (i : Nat) (c : List Int) (hc : m.cl i = some c) (hl : ∀ x ∈ c, plc x ≤ m.n) (hn : m.n ≤ 4000) (hcl : c.length ≤ 1000000) (hL : Lst m) :
    Calls Try.prog 65 #[ptrP L, ptrC L i] w fun e w' => e = .returned (.tuple #[]) ∧ ∃ ρ', Chr ρ w ρ' w' ∧ ∃ L', LayU L L' ∧ MA w' ρ' L' (unwM m i c) := by
  have HA := Lib.hid h
  have HCI := Lib.hid hc
  have HLI := Lib.hid hl
  have HLS := Lib.hid hL
  obtain ⟨sa, sc, hsh, hs1, hs2⟩ := own_shape (h.lit hc)
  have q1 := (h.cells hc).2
  rw [hsh] at q1
  have HSH := Lib.hid hsh
  unfold maxLen at hs2
  clear h hc hl hL hsh
  obtain ⟨M, hM⟩ : ∃ M, (c.take 2).length = M := ⟨_, rfl⟩
  have HM := Lib.hid hM
  rw [List.length_take] at hM
  unfold ptrP
  have HPC : Hid (ptrC L i = .pointer (some ⟨L.cb i, 0, none⟩)) := rfl
  rw [HPC.out]
  generalize hN : c.length = N at *
  have HN := Lib.hid hN
  clear hN
  go_enter Try.func65, Try.ntmps65
  go_wp2_with fail
  go_cut [18, 19, 20] (fun s z k W => s = .slice sa M sc ∧ z = .int .i64 (M : Int) ∧ k = .int .i64 0 ∧ ∃ t, W = w.drewN t)
  case first =>
    rcases (show N = 0 ∨ N = 1 ∨ N = 2 ∨ 2 < N by omega) with e | e | e | e
    · subst e
      obtain rfl : M = 0 := by omega
      go_region
      go_wp2_with fail
      go_meet
      exact ⟨rfl, rfl, rfl, 1, rfl⟩
    · subst e
      obtain rfl : M = 1 := by omega
      go_region
      go_wp2_with fail
      go_meet
      exact ⟨rfl, rfl, rfl, 1, rfl⟩
    · subst e
      obtain rfl : M = 2 := by omega
      go_region
      go_wp2_with fail
      go_meet
      exact ⟨rfl, rfl, rfl, 1, rfl⟩
    · obtain rfl : M = 2 := by omega
      have e2 : ¬ N < 2 := by omega
      have e3 : 2 ≤ sc := by omega
      have e4 : (2 : Int) < (N : Int) := by omega
      have e5 : ¬ (N : Int) < 2 := by omega
      clear hM
      go_region
      go_wp2_with fail
      go_meet
      exact ⟨rfl, rfl, rfl, 1, rfl⟩
  case rest =>
    obtain ⟨rfl, rfl, rfl, t0, rfl⟩ := hcut
    have HM0 := Lib.hid (HA.out.drewN t0)
    have HMN : Hid (M ≤ N) := by unfold Hid; omega
    have HM2 : Hid (M ≤ 2) := by unfold Hid; omega
    have HTK : Hid (∀ k, k ≤ M → c.take k = (c.take 2).take k) := fun k hk => by rw [List.take_take, Nat.min_eq_left (by have := HM2.out; omega)]
    clear hM
    go_wp2_with fail
    go_loopw [5, 6, 7, 20] (fun _ _ _ u20 wr => ∃ (k : Nat) (ρ' : Nat → Option Rl) (L' : Lay), k ≤ M ∧ u20 = .int .i64 (k : Int) ∧ Chr ρ w ρ' wr ∧ LayU L L' ∧ MA wr ρ' L' ((c.take k).foldl (fun m l => eraseM m i l) m)) (fun _ _ _ u20 _ => M - (intOf u20).toNat)
    case atStart => exact ⟨0, ρ, L, Nat.zero_le _, rfl, (Chr.refl _ _).drewN _, LayU.refl _, HM0.out⟩
    case round =>
      obtain ⟨k, ρ1, L1, hk1, rfl, hC, hE, hM⟩ := hrel
      have HC := Lib.hid hC
      have HE := Lib.hid hE
      by_cases hk : k < M
      · have hkN : k < N := by have := HMN.out; omega
        have hkc : k < c.length := by rw [HN.out]; exact hkN
        obtain ⟨ecl, en⟩ := fold_cl i (c.take k) m
        have hci : ((c.take k).foldl (fun m l => eraseM m i l) m).cl i = some c := by rw [ecl]; exact HCI.out
        obtain ⟨g, kc, e, _, hcell, _, _, _⟩ := hM.lits hci (by omega)
        rw [hE.cv, HSH.out] at e
        injection e with e1 _ e3
        subst e1; subst e3
        have x1 := hcell k (c.getD k 0) (by simp [List.getD, hkc])
        have hpl : plc (c.getD k 0) ≤ m.n := HLI.out _ (by rw [show c.getD k 0 = c[k] by simp [List.getD, hkc]]; exact List.getElem_mem hkc)
        have HPL : Hid (plc (c.getD k 0) ≤ ((c.take k).foldl (fun m l => eraseM m i l) m).n) := by unfold Hid; rw [en]; exact hpl
        have hn1 : ((c.take k).foldl (fun m l => eraseM m i l) m).n ≤ 4000 := by rw [en]; exact hn
        have HFS := Lib.hid (fold_snoc i c k hkc m)
        have HLS1 := Lib.hid (fold_lst i (c.take k) m HLS.out)
        have HCI1 := Lib.hid hci
        have HM1 := Lib.hid hM
        have HN1 := Lib.hid hn1
        have HW := Lib.hid (mwat_any hM (c.getD k 0) HPL.out hn1)
        unfold ptrP at HW
        rw [hE.p] at HW
        clear hM hcell hci hn1 hpl en ecl hkc hE hC
        generalize (c.take k).foldl (fun m l => eraseM m i l) m = m1 at *
        generalize c.getD k 0 = y at *
        go_wp2_with fail
        refine HW.out.mono ?_
        rintro e w1 ⟨rfl, t, rfl⟩
        rw [← wx_cell]
        have HMD := Lib.hid (HM1.out.drewN t)
        have hj : wx y / 2 ≤ m1.n := by rw [wx_half]; exact HPL.out
        have HJ := Lib.hid hj
        have c3 : (wr.drewN t).cell? ⟨L1.vb, wx y / 2 * 5 + (2 + wx y % 2), none⟩ = some (L1.wv (wx y)) := by
          obtain ⟨_, _, _, h3, _⟩ := HMD.out.wApp hj (App.refl _) (HMD.out.own_w (wx y))
          exact h3
        have HWO := Lib.hid (mwithout_any (L1.wv (wx y)) (m1.wt (wx y)) i (HMD.out.own_w (wx y)) (fun x hx e => by
          obtain ⟨d, hd⟩ := HLS1.out.wt _ x hx
          exact HMD.out.inj hd HCI1.out e) (fun x hx => by
          rcases hx with hx | rfl
          · obtain ⟨d, hd⟩ := HLS1.out.wt _ x hx
            exact HMD.out.blk hd
          · exact HMD.out.blk HCI1.out) (HLS1.out.wl _))
        rw [HE.out.ptr, HPC.out] at HWO
        clear HW hj
        generalize hX : wx y / 2 * 5 + (2 + wx y % 2) = X at *
        have HX := Lib.hid hX
        clear hX
        go_wp2_with fail
        refine HWO.out.mono ?_
        rintro e w3 ⟨v3, rfl, hap3, ho3⟩
        obtain ⟨a3, k3, rfl, _⟩ := own_shape ho3
        obtain ⟨ρ3, hM3, hC3, c4, f4⟩ := HMD.out.wApp HJ.out hap3 ho3
        rw [HX.out] at hM3 hC3 c4 f4
        have HM3 := Lib.hid hM3
        have HC3 := Lib.hid ((HC.out.drewN t).trans hC3)
        have HO3 := Lib.hid (mof_any hM3 y HPL.out HN1.out)
        unfold ptrP at HO3
        have HP1 : Hid (∀ v, ({ L1 with wv := v } : Lay).p = L.p) := fun _ => HE.out.p
        rw [HP1.out] at HO3
        clear hM3 hC3 hap3 ho3 HWO c3
        go_wp2_with fail
        refine HO3.out.mono ?_
        rintro e w5 ⟨rfl, t5, rfl⟩
        have HMD5 := Lib.hid (HM3.out.drewN t5)
        have c5 := HMD5.out.var (v := plc y) (k := 4) HPL.out (by omega)
        have c6 : ((w3.setCell ⟨L1.vb, X, none⟩ (.slice a3 ((m1.wt (wx y)).erase i).length k3)).drewN t5).cell? ⟨L1.vb, plc y * 5 + 4, none⟩ = some (L1.lw (plc y)) := c5
        have HWO5 := Lib.hid (mwithout_any (L1.lw (plc y)) (m1.lt (plc y)) i (HMD5.out.own_l (plc y)) (fun x hx e => by
          obtain ⟨d, hd⟩ := HLS1.out.lt _ x hx
          exact HMD5.out.inj hd HCI1.out e) (fun x hx => by
          rcases hx with hx | rfl
          · obtain ⟨d, hd⟩ := HLS1.out.lt _ x hx
            exact HMD5.out.blk hd
          · exact HMD5.out.blk HCI1.out) (HLS1.out.ll _))
        have HPT : Hid (∀ v, ptrC { L1 with wv := v } i = .pointer (some ⟨L.cb i, 0, none⟩)) := fun v => by
          show Value.pointer (some ⟨L1.cb i, 0, none⟩) = _
          rw [HE.out.cb]
        rw [HPT.out] at HWO5
        clear c5 c4 f4
        go_wp2_with fail
        refine HWO5.out.mono ?_
        rintro e w6 ⟨v6, rfl, hap6, ho6⟩
        obtain ⟨a6, k6, rfl, _⟩ := own_shape ho6
        obtain ⟨ρ6, hM6, hC6, c7, f7⟩ := HMD5.out.lApp HPL.out hap6 ho6
        have HM6 := Lib.hid hM6
        have HC6 := Lib.hid ((HC3.out.drewN t5).trans hC6)
        clear hM6 hC6 hap6 ho6 c6
        go_wp2_with fail
        go_roundw
        case rel =>
          refine ⟨k + 1, ρ6, _, by omega, by go_num, HC6.out, ?_, by rw [HFS.out]; exact HM6.out⟩
          exact HE.out.trans ⟨⟨rfl, rfl, rfl, rfl⟩, rfl, rfl⟩
        case measure => go_light; simp [intOf]; omega
      · have hd : ¬ k < M := hk
        have hkM : k = M := by omega
        have HF : Hid (MA wr ρ1 L1 (unwM m i c)) := by
          unfold Hid unwM
          rw [hkM] at hM
          rw [HTK.out M (Nat.le_refl _), List.take_of_length_le (by rw [HM.out]; exact Nat.le_refl _)] at hM
          exact hM
        clear hM hkM hk hC hE
        go_wp2_with fail
        (try simp only [Exit.inBlock, Exit.then])
        refine bodyPost_end (results_none rfl _ _ _) rfl ?_
        exact ⟨rfl, ρ1, HC.out, L1, HE.out, HF.out⟩

end
end Go.Proofs.Ytjlmooimdogmjaa

namespace Go.Proofs.Ytjlmooimdogmjaa
open Go.RowKit

theorem run_append_none (w : World) (base : Nat) (t ty e : TypeId) (i : TypeInfo) (size : Nat) (ht : Try.prog.underlying t = some (.slice e)) (hi : Try.prog.info? e = some i)
    (v : Value) (n : Nat) (xs : List Value) (hown : w.ownsRow base e size v n xs) (c : Nat) :
    (Builtin.append_ #[t, t] ty #[v, .slice none 0 c]).run Try.prog w = .ok v w := by
  rcases hown.2 with ⟨rfl, rfl⟩ | ⟨g, cap, cur, rfl, _, _, hnc, _⟩
  · simp [Builtin.append_, run_underlying ht, Go.sizeOf, typeInfo, hi, Builtin.lenOf, Builtin.firstCells]
  · simp [Builtin.append_, run_underlying ht, Go.sizeOf, typeInfo, hi, Builtin.lenOf, Builtin.firstCells, hnc, storeCells]
theorem run_append_any (T E : TypeId) (z : Value) (size bytes : Nat) (hT : Try.prog.underlying T = some (.slice E))
    (hE : (Try.prog.info? E).map (fun i => (i.zero, i.size, i.bytes)) = some (some z, size, bytes)) (hzc : z.cells.size = size) (hsz : 0 < size) (hby : bytes ≤ 100) (ty : TypeId)
    (w : World) (B : Nat) (v : Value) (n : Nat) (xs : List Value) (ao : Option Addr) (m c : Nat) (news : List Value)
    (hown : w.ownsRow B E size v n xs) (hB : B ≤ w.heap.size) (hn : n + m < 1099511627776) (hl : news.length = m * size) (hc : m = 0 ∨ ∃ ad, ao = some ad ∧ ∀ j u, news[j]? = some u → w.cell? (ad.add j) = some u) (h1 : ∀ u ∈ news, u.oneCell' = true) :
    ∃ v' w', (Builtin.append_ #[T, T] ty #[v, .slice ao m c]).run Try.prog w = .ok v' w' ∧ w'.ownsRow B E size v' (n + m) (xs ++ news) ∧ App B w w' v v' := by
  obtain ⟨i0, hi, hz0, hz1, hz2⟩ := info_parts hE
  cases ao with
  | none =>
    have hm0 : m = 0 := by
      rcases hc with h | ⟨ad, h, _⟩
      · exact h
      · cases h
    subst hm0
    have hy : news = [] := List.eq_nil_of_length_eq_zero (by omega)
    subst hy
    exact ⟨v, w, run_append_none w B T ty E i0 size hT hi v n xs hown c, by simpa using hown, Below.refl _ _, fun _ _ _ => rfl, .inl rfl⟩
  | some ad =>
    obtain ⟨v', w', hr, h2, h3, _, h5⟩ := run_append_own_at (P := Try.prog) w B T ty E i0 z size bytes hT hi hz0 hz1 hz2 hzc hsz v n xs hown ad m c news hl (by
      rcases hc with h0 | ⟨ad', e, hc⟩
      · subst h0
        have hy : news = [] := List.eq_nil_of_length_eq_zero (by omega)
        subst hy
        intro j u hj; simp at hj
      · obtain rfl := Option.some.inj e
        exact hc) h1 (by unfold maxLen; omega) (Nat.le_trans (Nat.mul_le_mul (Nat.le_of_lt hn) hby) (by decide)) hB
    exact ⟨v', w', hr, h2, (Below.refl B w).grown h3 hB fun k hk => (hown.lt k hk).1, fun k hk hne => h3.block k hk hne, h5.imp id fun e => ⟨_, e, Nat.le_refl _⟩⟩

/-- 'append(v, ys...)', v a row of the call's own. -/
theorem wpList_appC {ops : Array Oper} {rest : List Oper} {o : Oper} {a : Act} {Q : Exit → Act → World → Prop} (T E : TypeId) (z : Value) (size bytes : Nat) (hT : Try.prog.underlying T = some (.slice E))
    (hE : (Try.prog.info? E).map (fun i => (i.zero, i.size, i.bytes)) = some (some z, size, bytes)) (hzc : z.cells.size = size) (hsz : 0 < size) (hby : bytes ≤ 100) (hgd : o.guard = none) (s x : Operand)
    (ho : o.op = .call { callee := .builtin .append, args := #[s, x], argTypes := #[T, T] })
    (w : World) (B : Nat) (v : Value) (n : Nat) (xs : List Value) (ao : Option Addr) (m c : Nat) (news : List Value)
    (hown : w.ownsRow B E size v n xs) (hB : B ≤ w.heap.size) (hn : n + m < 1099511627776) (hl : news.length = m * size) (hc : m = 0 ∨ ∃ ad, ao = some ad ∧ ∀ j u, news[j]? = some u → w.cell? (ad.add j) = some u) (h1 : ∀ u ∈ news, u.oneCell' = true)
    (hs : a.eval s = v) (hx : a.eval x = .slice ao m c)
    (h : ∀ v' w', w'.ownsRow B E size v' (n + m) (xs ++ news) → App B w w' v v' → wpList Try.prog ops Q rest (a.put o.dst v') w') :
    wpList Try.prog ops Q (o :: rest) a w := by
  refine wpList_plain hgd fun K hK => ?_
  obtain ⟨v', w', hr, h2, h3⟩ := run_append_any T E z size bytes hT hE hzc hsz hby o.type w B v n xs ao m c news hown hB hn hl hc h1
  unfold Oper.wp execOp
  simp only [ho, resolve, invoke, builtin, Sem.run_bind, Sem.run_pure, Result.andThen_ok, List.map_toArray, List.map_cons, List.map_nil, hs, hx, hr]
  exact hK _ _ (h v' w' h2 h3)

/-- The same as one step of a region that draws. -/
theorem step_appC {ops : Array Oper} {o : Oper} {a : Act} {K : Act → World → Prop} {Q : Exit → Act → World → Prop} {EE : Prop} (T E : TypeId) (z : Value) (size bytes : Nat) (hT : Try.prog.underlying T = some (.slice E))
    (hE : (Try.prog.info? E).map (fun i => (i.zero, i.size, i.bytes)) = some (some z, size, bytes)) (hzc : z.cells.size = size) (hsz : 0 < size) (hby : bytes ≤ 100) (hgd : o.guard = none) (s x : Operand)
    (ho : o.op = .call { callee := .builtin .append, args := #[s, x], argTypes := #[T, T] })
    (w : World) (B : Nat) (v : Value) (n : Nat) (xs : List Value) (ao : Option Addr) (m c : Nat) (news : List Value)
    (hown : w.ownsRow B E size v n xs) (hB : B ≤ w.heap.size) (hn : n + m < 1099511627776) (hl : news.length = m * size) (hc : m = 0 ∨ ∃ ad, ao = some ad ∧ ∀ j u, news[j]? = some u → w.cell? (ad.add j) = some u) (h1 : ∀ u ∈ news, u.oneCell' = true)
    (hs : a.eval s = v) (hx : a.eval x = .slice ao m c)
    (h : ∀ v' w', w'.ownsRow B E size v' (n + m) (xs ++ news) → App B w w' v v' → K (a.put o.dst v') w') :
    if Region.wanted o (yielded ops a.tmps) = true then Oper.wp Try.prog o a w K Q else EE := by
  have hw : Region.wanted o (yielded ops a.tmps) = true := by simp [Region.wanted, hgd]
  rw [if_pos hw]
  obtain ⟨v', w', hr, h2, h3⟩ := run_append_any T E z size bytes hT hE hzc hsz hby o.type w B v n xs ao m c news hown hB hn hl hc h1
  unfold Oper.wp execOp
  simp only [ho, resolve, invoke, builtin, Sem.run_bind, Sem.run_pure, Result.andThen_ok, List.map_toArray, List.map_cons, List.map_nil, hs, hx, hr]
  exact h v' w' h2 h3
end Go.Proofs.Ytjlmooimdogmjaa
