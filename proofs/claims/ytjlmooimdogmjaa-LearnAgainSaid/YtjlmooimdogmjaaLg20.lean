/- Contracts of prop's Reason, isReason, Drop, of the state in memory. Conditions: 64-bit ints; the prop lies in memory as 'MA' says, at rest. · Contracts of prop's Drop and Decide, of the state in memory. Conditions: 64-bit ints; the prop lies in memory as 'MA' says, at rest. -/
import Derived.Test.YtjlmooimdogmjaaLg17
import Derived.Test.YtjlmooimdogmjaaLg19
set_option linter.unusedVariables false
set_option linter.unusedSimpArgs false
namespace Go.Proofs.Ytjlmooimdogmjaa
open Go.RowKit Go.Maps

theorem run_eql_nilp (w : World) {tp te : TypeId} {j : TypeInfo} (a : Addr) (hp : Try.prog.underlying tp = some (.pointer te)) (hte : Try.prog.info? te = some j) :
    (binOp .eql tp (.pointer none) (.pointer (some a))).run Try.prog w = .ok (.bool false) w := by
  have h : ∀ d : Nat, (Op.equalIn (d + 1) tp (.pointer none) (.pointer (some a))).run Try.prog w = .ok false w := fun d => by
    simp [Op.equalIn, run_underlying hp, sizeOf, typeInfo, hte]
  simp only [binOp]
  simp [Op.equal, Op.maxDepth, h 9999]
def reaM (m : Mc) (x : Int) : Int := if knownM m x = true then (match m.rs x.toNat with | some k => (k : Int) | none => -1) else -1
def isrM (m : Mc) (i : Nat) : List Int → Bool
  | [] => false
  | a :: _ => decide (m.rs (plc a) = some i)
section
variable {w w' : World} {ρ : Nat → Option Rl} {L : Lay} {m : Mc}
theorem knownM_iff (h : McW m) {x : Int} : knownM m x = true ↔ 0 < x ∧ (x ∈ m.tr ∨ -x ∈ m.tr) := by
  unfold knownM
  have := h.v0 x
  by_cases h1 : valL m.vs x = 0
  · rw [h1]
    obtain ⟨k1, k2⟩ := this.1 h1
    simp [k1, k2]
  · have h2 : (valL m.vs x == 0) = false := beq_eq_false_iff_ne.2 h1
    rw [h2]
    simp
    intro _
    refine Classical.byContradiction fun hn => h1 (this.2 ?_)
    rw [not_or] at hn; exact hn
theorem known_le (h : McW m) {x : Int} (hk : knownM m x = true) : x ≤ (m.n : Int) := by
  obtain ⟨h0, h1⟩ := (knownM_iff h).1 hk
  have : plc x ≤ m.n := by
    rcases h1 with h1 | h1
    · exact (h.rgt h1).2
    · have := (h.rgt h1).2; rwa [plc_ng] at this
  have e := plc_abs x
  unfold absI at e
  rw [if_neg (by omega)] at e
  omega

set_option maxRecDepth 8000 in
set_option maxHeartbeats 1000000 in
theorem mrea_any (h : MA w ρ L m) (hw : McW m) (x : Int) (h1 : -9223372036854775807 ≤ x) (h2 : x ≤ 9223372036854775807) :
    Calls Try.prog 52 #[ptrP L, .int .i64 x] w fun e w' => e = .returned (.int .i64 (reaM m x)) ∧ w = w' := by
  have HI := Lib.hid (mkno_any h x h1 h2)
  unfold ptrP at *
  unfold reaM
  cases hb : knownM m x with
  | false =>
    rw [hb] at HI
    clear h hb
    go_enter Try.func52, Try.ntmps52
    go_wp2_with fail
    refine HI.out.mono ?_
    rintro e w' ⟨rfl, rfl⟩
    go_wp2_with fail
    go_ret
    exact ⟨rfl, rfl⟩
  | true =>
    rw [hb] at HI
    rw [if_pos rfl]
    have hx := known_le hw hb
    have h0 : 0 < x := ((knownM_iff hw).1 hb).1
    have hn := hw.n
    obtain ⟨v, rfl⟩ := Int.eq_ofNat_of_zero_le (show 0 ≤ x by omega)
    have c1 := h.pc.c1
    have g0 := h.var (v := v) (k := 1) (by omega) (by omega)
    rw [show vcell L m v 1 = ptrO L (m.rs v) from rfl] at g0
    rw [Int.toNat_natCast]
    have hv : v < m.n + 1 := by omega
    cases hr : m.rs v with
    | none =>
      rw [hr, show ptrO L none = .pointer none from rfl] at g0
      clear h hb hx
      generalize m.n = n at *
      go_enter Try.func52, Try.ntmps52
      go_wp2_with fail
      refine HI.out.mono ?_
      rintro e w' ⟨rfl, rfl⟩
      go_wp2_with fail
      go_ret
      exact ⟨rfl, rfl⟩
    | some k =>
      rw [hr, show ptrO L (some k) = .pointer (some ⟨L.cb k, 0, none⟩) from rfl] at g0
      obtain ⟨p, c, _, _, hc⟩ := hw.rs_head hr
      have q0 := (h.cells hc).1
      clear h hb hx hc
      generalize m.n = n at *
      go_enter Try.func52, Try.ntmps52
      go_wp2_with fail
      refine HI.out.mono ?_
      rintro e w' ⟨rfl, rfl⟩
      go_wp2_with fail
      go_ret
      exact ⟨rfl, rfl⟩

/-! ### Drop -/
theorem isr_no (h : McW m) {i : Nat} {c : List Int} (hc : m.cl i = some c) (hr : isrM m i c = false) (v : Nat) : m.rs v ≠ some i := fun e => by
  obtain ⟨p, c0, _, e2, hc0⟩ := h.rs_head e
  rw [hc] at hc0
  injection hc0 with hc0
  subst hc0
  have h3 : m.rs (plc (m.tr.getD p 0)) = some i := by rw [e2]; exact e
  have h4 : isrM m i (m.tr.getD p 0 :: c0) = true := decide_eq_true h3
  rw [h4] at hr; cases hr
/-- The clause is there no more. -/
def dropM (m : Mc) (i : Nat) (c : List Int) : Mc := { unwM { m with mp := upd m.mp i false, td := m.td.erase i } i c with cl := upd m.cl i none }
theorem McI.drop (h : McI m) {i : Nat} {c : List Int} (hc : m.cl i = some c) (hr : ∀ v, m.rs v ≠ some i) : McI (dropM m i c) := by
  have hl0 : McL { m with mp := upd m.mp i false, td := m.td.erase i } (· ∈ m.td) := { h.l with tdn := h.l.tdn.erase _, tdF := fun j hj => ⟨List.mem_of_mem_erase hj, (h.l.tdF j (List.mem_of_mem_erase hj)).2⟩ }
  have u := unwM_spec hl0 hc
  have he : dropM m i c = { m with mp := upd m.mp i false, td := m.td.erase i, wt := (unwM { m with mp := upd m.mp i false, td := m.td.erase i } i c).wt, lt := (unwM { m with mp := upd m.mp i false, td := m.td.erase i } i c).lt, cl := upd m.cl i none } := by
    unfold dropM
    rw [u.eq]
  generalize (unwM { m with mp := upd m.mp i false, td := m.td.erase i } i c) = m1 at *
  rw [he]
  have hcl : ∀ {j d}, upd m.cl i none j = some d → j ≠ i ∧ m.cl j = some d := fun {j d} hd => by
    unfold upd at hd
    split at hd
    · cases hd
    · rename_i e; exact ⟨e, hd⟩
  have hcl2 : ∀ {j d}, j ≠ i → m.cl j = some d → upd m.cl i none j = some d := fun e hd => (upd_ne _ _ e).trans hd
  have htd : ∀ j, j ≠ i → (j ∈ m.td.erase i ↔ j ∈ m.td) := fun j e => by rw [mem_eraseN h.l.tdn]; simp [e]
  refine { w := ?_, l := ?_, s := fun j hj => ?_, r := fun j hj => h.r j (List.mem_of_mem_erase hj) }
  · refine ⟨h.w.n, h.w.vl, h.w.vv, h.w.tv, h.w.one, h.w.told, h.w.sorted, h.w.lt, h.w.lvl, fun j => ?_, fun j d hd => h.w.cls j d (hcl hd).2, h.w.rs0, h.w.dec, fun p h1 h2 => ?_⟩
    · show upd m.mp i false j = (upd m.cl i none j).isSome
      unfold upd
      split
      · rfl
      · exact h.w.mps j
    · obtain ⟨k, c0, k1, k2, k3⟩ := h.w.rsn p h1 h2
      exact ⟨k, c0, k1, hcl2 (fun e => hr _ (e ▸ k1)) k2, k3⟩
  · refine { tdn := h.l.tdn.erase _, tdF := fun j hj => ⟨hj, ?_⟩, ltN := u.lN, ltc := fun v j hj => ?_, wtN := u.wN, wtc := fun v j hj => ?_, wtd := fun j d hd hf => ?_ }
    · have hj2 := (mem_eraseN h.l.tdn).1 hj
      obtain ⟨_, d, hd⟩ := h.l.tdF j hj2.2
      exact ⟨d, hcl2 hj2.1 hd⟩
    · obtain ⟨k1, k2⟩ := (u.lt v j).1 hj
      obtain ⟨k3, a, r, k4, k5⟩ := h.l.ltc v j k1
      exact ⟨fun hm => k3 (List.mem_of_mem_erase hm), a, r, hcl2 k2 k4, k5⟩
    · obtain ⟨k1, k2⟩ := (u.wt v j).1 hj
      obtain ⟨k3, a, b, r, k4, k5⟩ := h.l.wtc v j k1
      exact ⟨fun hm => k3 (List.mem_of_mem_erase hm), a, b, r, hcl2 k2 k4, k5⟩
    · obtain ⟨e, hd'⟩ := hcl hd
      obtain ⟨k1, k2⟩ := h.l.wtd j d hd' (fun hm => hf ((htd j e).2 hm))
      exact ⟨k1, fun a b r ec => ⟨(u.wt _ _).2 ⟨(k2 a b r ec).1, e⟩, (u.wt _ _).2 ⟨(k2 a b r ec).2, e⟩⟩⟩
  · intro d hd
    obtain ⟨e, hd'⟩ := hcl hd
    have hs := h.s j (fun hm => hj ((htd j e).2 hm)) d hd'
    have hl : ∀ v, j ∈ m1.lt v ↔ j ∈ m.lt v := fun v => by rw [u.lt]; simp [e]
    match d, hs with
    | [a], ⟨s1, s2⟩ => exact ⟨s1, (hl _).trans s2⟩
    | a :: b :: _, ⟨s1, s2, s3⟩ => exact ⟨s1, (hl _).trans s2, s3⟩
theorem MA.forget (h : MA w ρ L m) (i : Nat) : MA w ρ L { m with cl := upd m.cl i none } where
  lt := h.lt
  hi := h.hi
  at' := fun r => by
    have hk := h.at' r
    cases r with
    | c j => exact fun d hd => hk d (by have hd' : upd m.cl i none j = some d := hd; unfold upd at hd'; split at hd'; cases hd'; exact hd')
    | d j => exact fun d hd => hk d (by have hd' : upd m.cl i none j = some d := hd; unfold upd at hd'; split at hd'; cases hd'; exact hd')
    | _ => exact hk
theorem MA.mapDel (h : MA w ρ L m) {i : Nat} (hi : i ≤ 9223372036854775807) {N : Nat} {D : DataW Nat} (hN : N ≤ m.nx) (hD : ∀ x : Int, -9223372036854775808 ≤ x → x ≤ 9223372036854775807 → D.atKey (.int .i64 x) .nil = atC m.mp L.cb x) (ho : w'.ownsMap (H := Nat) Try.prog 3 ptrElem L.mb N (D.del (.int .i64 (i : Int)))) (hO : Only L.mb w w') : MA w' ρ L { m with mp := upd m.mp i false } where
  lt := h.lt' hO.size
  hi := h.hi
  at' := fun r => by
    have hr := (h.at' .mp).1
    have hk : r ≠ .mp → At ρ w' L m r := fun hne => h.rest hr hO hne
    cases r with
    | mp =>
      refine ⟨hr, N, _, ho, hN, fun x x1 x2 => ?_⟩
      unfold atC
      by_cases e : x = (i : Int)
      · subst e
        rw [atKey_del_same]
        rw [if_neg]
        show ¬ (0 ≤ (i : Int) ∧ upd m.mp i false ((i : Int).toNat) = true)
        rw [Int.toNat_natCast, upd_same]
        simp
      · rw [atKey_del_other (fun e' => e (by injection e')), hD x x1 x2]
        unfold atC
        by_cases h0 : 0 ≤ x
        · have : upd m.mp i false x.toNat = m.mp x.toNat := upd_ne _ _ (fun e' => e (by omega))
          show _ = if 0 ≤ x ∧ upd m.mp i false x.toNat = true then _ else _
          rw [this]
        · rw [if_neg (fun hh => h0 hh.1), if_neg (fun hh => h0 hh.1)]
    | _ => exact hk (by nofun)
end
end Go.Proofs.Ytjlmooimdogmjaa

namespace Go.Proofs.Ytjlmooimdogmjaa
open Go.RowKit Go.Maps

/-- What Drop answers, and leaves. -/
def DropR (w : World) (ρ : Nat → Option Rl) (L : Lay) (m : Mc) (i : Int) (b : Bool) (w' : World) : Prop :=
  (b = false ∧ (i < 0 ∨ m.cl i.toNat = none ∨ ∃ c, m.cl i.toNat = some c ∧ isrM m i.toNat c = true) ∧ ∃ t, w' = w.drewN t) ∨
  (b = true ∧ 0 ≤ i ∧ ∃ c, m.cl i.toNat = some c ∧ isrM m i.toNat c = false ∧ ∃ ρ', Chr ρ w ρ' w' ∧ ∃ L', LayE L L' ∧ MA w' ρ' L' (dropM m i.toNat c))
section
variable {w w' : World} {ρ : Nat → Option Rl} {L : Lay} {m : Mc}

/-! ### Decide -/
theorem McI.decide (h : McI m) {l : Int} (hr : 1 ≤ plc l ∧ plc l ≤ m.n) (h0 : valL m.vs l = 0) : McI (decM m l) where
  w := h.w.setG hr h0 (.inr ⟨rfl, rfl⟩)
  l := h.l.setG l none _
  s := fun i hi => (h.s i hi).setG h.w h.w.told h0 none _
  r := fun i hi v => by
    show upd m.rs (plc l) none v ≠ some i
    unfold upd
    split
    · simp
    · exact h.r i hi v
def decB (m : Mc) (l : Int) : Bool := isM m.n l && (valL m.vs l == 0)
theorem trl_lt (h : McW m) {l : Int} (hr : 1 ≤ plc l ∧ plc l ≤ m.n) (h0 : valL m.vs l = 0) : m.tr.length < m.n := by
  have := pigV (l := m.tr ++ [l]) (N := m.n) (by
    rw [List.pairwise_append]
    exact ⟨h.one, by simp, fun x hx y hy => by simp at hy; subst hy; exact h.unk h0 x hx⟩) (fun x hx => by
    rw [List.mem_append, List.mem_singleton] at hx
    rcases hx with hx | rfl
    · exact h.rgt hx
    · exact hr)
  rw [List.length_append] at this
  simp at this
  omega
def DecR (w : World) (ρ : Nat → Option Rl) (L : Lay) (m : Mc) (l : Int) (b : Bool) (w' : World) : Prop := (decB m l = false ∧ b = false ∧ w' = w) ∨ (decB m l = true ∧ b = true ∧ ∃ ρ', Chr ρ w ρ' w' ∧ ∃ sv tv, MA w' ρ' { L with stv := sv, trv := tv } (decM m l))

set_option maxRecDepth 8000 in
set_option maxHeartbeats 4000000 in
theorem mdec_any (h : MA w ρ L m) (hI : McI m) (l : Int) (h1 : -9223372036854775807 ≤ l) (h2 : l ≤ 9223372036854775807) :
    Calls Try.prog 28 #[ptrP L, .int .i64 l] w fun e w' => ∃ b, e = .returned (.bool b) ∧ DecR w ρ L m l b w' := by
  have HIS := Lib.hid (mis_any h l h1 h2 hI.w.n)
  have HV := Lib.hid (mval_any h l h1 h2)
  have HD : Hid (decB m l = (isM m.n l && (valL m.vs l == 0))) := rfl
  unfold ptrP at *
  cases hb : isM m.n l with
  | false =>
    rw [hb] at HIS HD
    have HE : Hid (DecR w ρ L m l false w) := .inl ⟨HD.out, rfl, rfl⟩
    clear h hI hb HD
    go_enter Try.func28, Try.ntmps28
    go_wp2_with fail
    refine HIS.out.mono ?_
    rintro e w' ⟨rfl, rfl⟩
    go_wp2_with fail
    go_ret
    exact ⟨_, rfl, HE.out⟩
  | true =>
    rw [hb] at HIS HD
    by_cases hv : valL m.vs l = 0
    · have HE : Hid (decB m l = true) := by unfold Hid; rw [HD.out, hv]; rfl
      rw [hv] at HV
      have hr := isM_iff.1 hb
      have htr := hI.w.tr_len
      have hst := hI.w.st_len
      have hn := hI.w.n
      have c4 := h.pc.c4
      have c2 := h.pc.c2
      obtain ⟨sa, sc, hss, _⟩ := ro_shape (h.at' .st)
      obtain ⟨ta, tc, hts, _⟩ := ro_shape (h.at' .tr)
      rw [List.length_map] at hss hts
      rw [hss] at c4
      rw [hts] at c2
      have HM := Lib.hid h
      have HSS := Lib.hid hss
      have hos := (h.at' .st).1
      rw [List.length_map] at hos
      have HOS := Lib.hid hos
      have HPL := Lib.hid hr
      have htl : m.tr.length ≤ 4000 := by omega
      have HSB : Hid (m.st.length < 4000) := by
        unfold Hid
        have h3 := pig (N := m.tr.length) (hI.w.sorted.imp fun hlt => Nat.ne_of_lt hlt) hI.w.lt
        have h4 : m.tr.length < m.n := trl_lt hI.w hr hv
        omega
      have hsl : m.st.length ≤ 4000 := by omega
      clear htr hst h hI hb HD hv hss hts hos hr
      go_enter Try.func28, Try.ntmps28
      go_wp2_with fail
      refine HIS.out.mono ?_
      rintro e w' ⟨rfl, rfl⟩
      go_wp2_with fail
      refine HV.out.mono ?_
      rintro e w' ⟨rfl, rfl⟩
      go_wp2_with fail
      have HB : Hid (Below w.heap.size w (w.drew.alloc (.cells #[.int .i64 (m.tr.length : Int)] 3))) := (Below.refl _ _).drew.alloc (Nat.le_refl _) _
      have HA := Lib.hid (HM.out.below HB.out)
      have HCH : Hid (Chr ρ w ρ (w.drew.alloc (.cells #[.int .i64 (m.tr.length : Int)] 3))) := Chr.of_below HB.out
      have hos2 := (HA.out.at' .st).1
      rw [List.length_map, HSS.out] at hos2
      have HOS2 := Lib.hid hos2
      clear hos2
      have hlp := HM.out.lt _ _ HM.out.rp
      have HSRC : Hid ((w.drew.alloc (.cells #[.int .i64 (m.tr.length : Int)] 3)).cell? ((⟨w.heap.size, 0, none⟩ : Addr).add 0) = some (.int .i64 (m.tr.length : Int))) := by
        have := heap_alloc_new w.drew (.cells #[.int .i64 (m.tr.length : Int)] 3)
        exact (cell_of_row _ _ 0 _ _ _ this).trans rfl
      go_region_law (refine step_appC 22 3 (.int .i64 0) 1 8 Try.underlying22 infoInt rfl (by decide) (by decide) rfl _ _ rfl (w.drew.alloc (.cells #[.int .i64 (m.tr.length : Int)] 3)) 0 (.slice sa m.st.length sc) m.st.length _ (some ⟨w.heap.size, 0, none⟩) 1 1 [.int .i64 (m.tr.length : Int)] HOS2.out (Nat.zero_le _) (by omega) rfl (.inr ⟨_, rfl, fun j u hj => by
        match j, hj with
        | 0, hj => simp at hj; subst hj; exact HSRC.out⟩) (fun u hu => by simp at hu; subst hu; rfl) (by simp [Act.eval, Act.put]) (by simp [Act.eval, Act.put]) ?_; intro v5 w5 ho5 hap5; obtain ⟨a5, k5, rfl, _⟩ := own_shape ho5; rw [← HSS.out] at hap5; rw [show (m.st.map fun (s : Nat) => Value.int .i64 (s : Int)) ++ [Value.int .i64 (m.tr.length : Int)] = (m.st ++ [m.tr.length]).map fun (s : Nat) => Value.int .i64 (s : Int) by simp] at ho5; obtain ⟨ρ5, hM5, hC5, k5', f5⟩ := HA.out.stApp hap5 ho5; rw [HSS.out] at k5'; have hlt5 := Nat.lt_of_lt_of_le (HA.out.lt _ _ HA.out.rp) hap5.below.size; have HM5 := Lib.hid hM5; have HC5 := Lib.hid hC5; clear hM5 hC5 ho5 hap5)
      all_goals (
        have HS := Lib.hid (mset_any HM5.out l none HPL.out.2 hn htl (by show (m.st ++ [m.tr.length]).length ≤ 4000; rw [List.length_append]; have := HSB.out; show m.st.length + 1 ≤ 4000; omega))
        unfold ptrP at HS
        rw [show ∀ (K : Lay), ptrO K none = .pointer none from fun _ => rfl] at HS
        go_wp2_with fail
        refine HS.out.mono ?_
        rintro e w6 ⟨rfl, ρ6, hC6, tv, hM6⟩
        have HE6 : Hid (DecR w ρ L m l true w6) := .inr ⟨HE.out, rfl, ρ6, (HCH.out.trans HC5.out).trans hC6, _, tv, hM6⟩
        clear hM6 hC6
        go_wp2_with fail
        go_ret
        exact ⟨_, rfl, HE6.out⟩)
    · have HE : Hid (DecR w ρ L m l false w) := .inl ⟨by rw [HD.out]; simp [hv], rfl, rfl⟩
      have hvb : (valL m.vs l == 0) = false := beq_eq_false_iff_ne.2 hv
      have hvn : (valL m.vs l != 0) = true := bne_iff_ne.2 hv
      clear h hI hb HD hv
      generalize valL m.vs l = y at *
      go_enter Try.func28, Try.ntmps28
      go_wp2_with fail
      refine HIS.out.mono ?_
      rintro e w' ⟨rfl, rfl⟩
      go_wp2_with fail
      refine HV.out.mono ?_
      rintro e w' ⟨rfl, rfl⟩
      go_wp2_with fail
      go_ret
      exact ⟨_, rfl, HE.out⟩

end
end Go.Proofs.Ytjlmooimdogmjaa
