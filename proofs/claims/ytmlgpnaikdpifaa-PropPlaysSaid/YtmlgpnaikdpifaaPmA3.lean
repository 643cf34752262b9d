/- Contracts of prop's Reason, isReason, Drop, of the state in memory. Conditions: 64-bit ints; the prop lies in memory as 'MA' says, at rest. · Contracts of prop's Drop and Decide, of the state in memory. Conditions: 64-bit ints; the prop lies in memory as 'MA' says, at rest. · What prop's Back keeps, purely. No conditions beyond those typed. · The contract of prop's Back, of the state in memory. Conditions: 64-bit ints; the prop lies in memory as 'MA' says, at rest. · An append of zero values to a row of the call's own, room or none. No conditions beyond those typed. · The contract of prop's Grow, of the state in memory. Conditions: 64-bit ints; the prop lies in memory as 'MA' says, at rest. · The contract of prop's Grow, of the state in memory. Conditions: 64-bit ints; the prop lies in memory as 'MA' says, at rest. · The contract of prop's New. Conditions: 64-bit ints. -/
import Derived.Test.YtmlgpnaikdpifaaPmA2
import Derived.BigRegion
import Derived.Lib.AppendZerosOnto
import Derived.Test.YtmlgpnaikdpifaaAsgNew
set_option linter.unusedVariables false
set_option linter.unusedSimpArgs false
namespace Go.Proofs.Ytmlgpnaikdpifaa
open Go.RowKit Go.Maps

theorem run_eql_nilp (w : World) {tp te : TypeId} {j : TypeInfo} (a : Addr) (hp : Try.prog.underlying tp = some (.pointer te)) (hte : Try.prog.info? te = some j) :
    (binOp .eql tp (.pointer none) (.pointer (some a))).run Try.prog w = .ok (.bool false) w := by
  have h : ∀ d : Nat, (Op.equalIn (d + 1) tp (.pointer none) (.pointer (some a))).run Try.prog w = .ok false w := fun d => by
    simp [Op.equalIn, run_underlying hp, sizeOf, typeInfo, hte]
  simp only [binOp]
  simp [Op.equal, Op.maxDepth, h 9999]
def reaM (m : Mc) (x : Int) : Int := if knownM m x = true then (match m.rs x.toNat with | some k => (k : Int) | none => -1) else -1
def isrM (m : Mc) (i : Nat) : List Int → Bool
  | [] => false
  | a :: _ => decide (m.rs (plc a) = some i)
section
variable {w w' : World} {ρ : Nat → Option Rl} {L : Lay} {m : Mc}
theorem knownM_iff (h : McW m) {x : Int} : knownM m x = true ↔ 0 < x ∧ (x ∈ m.tr ∨ -x ∈ m.tr) := by
  unfold knownM
  have := h.v0 x
  by_cases h1 : valL m.vs x = 0
  · rw [h1]
    obtain ⟨k1, k2⟩ := this.1 h1
    simp [k1, k2]
  · have h2 : (valL m.vs x == 0) = false := beq_eq_false_iff_ne.2 h1
    rw [h2]
    simp
    intro _
    refine Classical.byContradiction fun hn => h1 (this.2 ?_)
    rw [not_or] at hn; exact hn
theorem known_le (h : McW m) {x : Int} (hk : knownM m x = true) : x ≤ (m.n : Int) := by
  obtain ⟨h0, h1⟩ := (knownM_iff h).1 hk
  have : plc x ≤ m.n := by
    rcases h1 with h1 | h1
    · exact (h.rgt h1).2
    · have := (h.rgt h1).2; rwa [plc_ng] at this
  have e := plc_abs x
  unfold absI at e
  rw [if_neg (by omega)] at e
  omega

set_option maxRecDepth 8000 in
set_option maxHeartbeats 1000000 in
theorem mrea_any (h : MA w ρ L m) (hw : McW m) (x : Int) (h1 : -9223372036854775807 ≤ x) (h2 : x ≤ 9223372036854775807) :
    Calls Try.prog 61 #[ptrP L, .int .i64 x] w fun e w' => e = .returned (.int .i64 (reaM m x)) ∧ w = w' := by
  have HI := Lib.hid (mkno_any h x h1 h2)
  unfold ptrP at *
  unfold reaM
  cases hb : knownM m x with
  | false =>
    rw [hb] at HI
    clear h hb
    go_enter Try.func61, Try.ntmps61
    go_wp2_with fail
    refine HI.out.mono ?_
    rintro e w' ⟨rfl, rfl⟩
    go_wp2_with fail
    go_ret
    exact ⟨rfl, rfl⟩
  | true =>
    rw [hb] at HI
    rw [if_pos rfl]
    have hx := known_le hw hb
    have h0 : 0 < x := ((knownM_iff hw).1 hb).1
    have hn := hw.n
    obtain ⟨v, rfl⟩ := Int.eq_ofNat_of_zero_le (show 0 ≤ x by omega)
    have c1 := h.pc.c1
    have g0 := h.var (v := v) (k := 1) (by omega) (by omega)
    rw [show vcell L m v 1 = ptrO L (m.rs v) from rfl] at g0
    rw [Int.toNat_natCast]
    have hv : v < m.n + 1 := by omega
    cases hr : m.rs v with
    | none =>
      rw [hr, show ptrO L none = .pointer none from rfl] at g0
      clear h hb hx
      generalize m.n = n at *
      go_enter Try.func61, Try.ntmps61
      go_wp2_with fail
      refine HI.out.mono ?_
      rintro e w' ⟨rfl, rfl⟩
      go_wp2_with fail
      go_ret
      exact ⟨rfl, rfl⟩
    | some k =>
      rw [hr, show ptrO L (some k) = .pointer (some ⟨L.cb k, 0, none⟩) from rfl] at g0
      obtain ⟨p, c, _, _, hc⟩ := hw.rs_head hr
      have q0 := (h.cells hc).1
      clear h hb hx hc
      generalize m.n = n at *
      go_enter Try.func61, Try.ntmps61
      go_wp2_with fail
      refine HI.out.mono ?_
      rintro e w' ⟨rfl, rfl⟩
      go_wp2_with fail
      go_ret
      exact ⟨rfl, rfl⟩

set_option maxRecDepth 8000 in
set_option maxHeartbeats 1000000 in
theorem misr_any (h : MA w ρ L m) (hw : McW m) (i : Nat) (c : List Int) (hc : m.cl i = some c) :
    Calls Try.prog 57 #[ptrP L, ptrC L i] w fun e w' => e = .returned (.bool (isrM m i c)) ∧ ∃ t, w' = w.drewN t := by
  obtain ⟨jt, hj, hjs⟩ := Option.map_eq_some_iff.1 clSize
  have q1 := (h.cells hc).2
  have hlb := (hw.cl_lit hc).2
  unfold ptrP
  rw [show ptrC L i = .pointer (some ⟨L.cb i, 0, none⟩) from rfl]
  cases c with
  | nil =>
    obtain ⟨sa, sc, e, _⟩ := own_shape (h.lit hc)
    rw [e] at q1
    have hz : ([] : List Int).length = 0 := rfl
    rw [hz] at q1
    clear h hc e hz
    go_enter Try.func57, Try.ntmps57
    go_wp2_with fail
    go_ret
    exact ⟨rfl, 0, rfl⟩
  | cons a r =>
    obtain ⟨g, kc, e, _, hcell, _, _, _⟩ := h.lits hc (by simp)
    rw [e] at q1
    have q2 := hcell 0 a rfl
    have hla := (hw.cl_lit hc).1 a (by simp)
    have HO := Lib.hid (mof_any h a hla hw.n)
    unfold ptrP at HO
    have hln : (a :: r).length = r.length + 1 := rfl
    rw [hln] at q1 hlb
    have g0 := h.var (v := plc a) (k := 1) hla (by omega)
    rw [show vcell L m (plc a) 1 = ptrO L (m.rs (plc a)) from rfl] at g0
    have HBI := Lib.hid (h.blk hc)
    have HM := Lib.hid h
    have HI : Hid (isrM m i (a :: r) = decide (m.rs (plc a) = some i)) := rfl
    rw [HI.out]
    clear h hcell e hln
    generalize r.length = N at *
    cases hr : m.rs (plc a) with
    | none =>
      rw [hr, show ptrO L none = .pointer none from rfl] at g0
      have hd : decide ((none : Option Nat) = some i) = false := rfl
      rw [hd]
      have hq : ∀ t, (binOp .eql 73 (.pointer none) (.pointer (some ⟨L.cb i, 0, none⟩))).run Try.prog (w.drewN t) = .ok (.bool false) (w.drewN t) := fun t => run_eql_nilp (w.drewN t) (tp := 73) ⟨L.cb i, 0, none⟩ Try.underlying73 hj
      clear hr hc
      go_enter Try.func57, Try.ntmps57
      go_wp2_with fail
      refine HO.out.mono ?_
      rintro e w' ⟨rfl, t, rfl⟩
      go_wp2_with fail
      go_ret
      exact ⟨rfl, _, rfl⟩
    | some k =>
      rw [hr, show ptrO L (some k) = .pointer (some ⟨L.cb k, 0, none⟩) from rfl] at g0
      obtain ⟨p, c, _, _, hck⟩ := hw.rs_head hr
      obtain ⟨cs1, T1, hb1⟩ := HM.out.blk hck
      obtain ⟨cs2, T2, hb2⟩ := HBI.out
      by_cases hk : k = i
      · subst hk
        have hd : decide (some k = some k) = true := decide_eq_true rfl
        rw [hd]
        have hq : ∀ t, (binOp .eql 73 (.pointer (some ⟨L.cb k, 0, none⟩)) (.pointer (some ⟨L.cb k, 0, none⟩))).run Try.prog (w.drewN t) = .ok (.bool true) (w.drewN t) := fun t => run_eql_ptr_same (P := Try.prog) (w.drewN t) (tp := 73) ⟨L.cb k, 0, none⟩ Try.underlying73 hj
        clear hr hc hck hb1 hb2
        go_enter Try.func57, Try.ntmps57
        go_wp2_with fail
        refine HO.out.mono ?_
        rintro e w' ⟨rfl, t, rfl⟩
        go_wp2_with fail
        go_ret
        exact ⟨rfl, _, rfl⟩
      · have hd : decide (some k = some i) = false := decide_eq_false (fun e => hk (by injection e))
        rw [hd]
        have hne : L.cb k ≠ L.cb i := fun e => hk (HM.out.inj hck hc e)
        have hq : ∀ t, (binOp .eql 73 (.pointer (some ⟨L.cb k, 0, none⟩)) (.pointer (some ⟨L.cb i, 0, none⟩))).run Try.prog (w.drewN t) = .ok (.bool false) (w.drewN t) := fun t => run_eql_ptr_other (P := Try.prog) (w.drewN t) (tp := 73) (a := ⟨L.cb k, 0, none⟩) (b := ⟨L.cb i, 0, none⟩) Try.underlying73 hj (by rw [hjs]; decide) (fun e => hne (by injection e)) hb1 hb2
        clear hr hc hck hb1 hb2
        generalize L.cb k = bk at *
        go_enter Try.func57, Try.ntmps57
        go_wp2_with fail
        refine HO.out.mono ?_
        rintro e w' ⟨rfl, t, rfl⟩
        go_wp2_with fail
        go_ret
        exact ⟨rfl, _, rfl⟩

/-! ### Drop -/
theorem isr_no (h : McW m) {i : Nat} {c : List Int} (hc : m.cl i = some c) (hr : isrM m i c = false) (v : Nat) : m.rs v ≠ some i := fun e => by
  obtain ⟨p, c0, _, e2, hc0⟩ := h.rs_head e
  rw [hc] at hc0
  injection hc0 with hc0
  subst hc0
  have h3 : m.rs (plc (m.tr.getD p 0)) = some i := by rw [e2]; exact e
  have h4 : isrM m i (m.tr.getD p 0 :: c0) = true := decide_eq_true h3
  rw [h4] at hr; cases hr
/-- The clause is there no more. -/
def dropM (m : Mc) (i : Nat) (c : List Int) : Mc := { unwM { m with mp := upd m.mp i false, td := m.td.erase i } i c with cl := upd m.cl i none }
theorem McI.drop (h : McI m) {i : Nat} {c : List Int} (hc : m.cl i = some c) (hr : ∀ v, m.rs v ≠ some i) : McI (dropM m i c) := by
  have hl0 : McL { m with mp := upd m.mp i false, td := m.td.erase i } (· ∈ m.td) := { h.l with tdn := h.l.tdn.erase _, tdF := fun j hj => ⟨List.mem_of_mem_erase hj, (h.l.tdF j (List.mem_of_mem_erase hj)).2⟩ }
  have u := unwM_spec hl0 hc
  have he : dropM m i c = { m with mp := upd m.mp i false, td := m.td.erase i, wt := (unwM { m with mp := upd m.mp i false, td := m.td.erase i } i c).wt, lt := (unwM { m with mp := upd m.mp i false, td := m.td.erase i } i c).lt, cl := upd m.cl i none } := by
    unfold dropM
    rw [u.eq]
  generalize (unwM { m with mp := upd m.mp i false, td := m.td.erase i } i c) = m1 at *
  rw [he]
  have hcl : ∀ {j d}, upd m.cl i none j = some d → j ≠ i ∧ m.cl j = some d := fun {j d} hd => by
    unfold upd at hd
    split at hd
    · cases hd
    · rename_i e; exact ⟨e, hd⟩
  have hcl2 : ∀ {j d}, j ≠ i → m.cl j = some d → upd m.cl i none j = some d := fun e hd => (upd_ne _ _ e).trans hd
  have htd : ∀ j, j ≠ i → (j ∈ m.td.erase i ↔ j ∈ m.td) := fun j e => by rw [mem_eraseN h.l.tdn]; simp [e]
  refine { w := ?_, l := ?_, s := fun j hj => ?_, r := fun j hj => h.r j (List.mem_of_mem_erase hj) }
  · refine ⟨h.w.n, h.w.vl, h.w.vv, h.w.tv, h.w.one, h.w.told, h.w.sorted, h.w.lt, h.w.lvl, fun j => ?_, fun j d hd => h.w.cls j d (hcl hd).2, h.w.rs0, h.w.dec, fun p h1 h2 => ?_⟩
    · show upd m.mp i false j = (upd m.cl i none j).isSome
      unfold upd
      split
      · rfl
      · exact h.w.mps j
    · obtain ⟨k, c0, k1, k2, k3⟩ := h.w.rsn p h1 h2
      exact ⟨k, c0, k1, hcl2 (fun e => hr _ (e ▸ k1)) k2, k3⟩
  · refine { tdn := h.l.tdn.erase _, tdF := fun j hj => ⟨hj, ?_⟩, ltN := u.lN, ltc := fun v j hj => ?_, wtN := u.wN, wtc := fun v j hj => ?_, wtd := fun j d hd hf => ?_ }
    · have hj2 := (mem_eraseN h.l.tdn).1 hj
      obtain ⟨_, d, hd⟩ := h.l.tdF j hj2.2
      exact ⟨d, hcl2 hj2.1 hd⟩
    · obtain ⟨k1, k2⟩ := (u.lt v j).1 hj
      obtain ⟨k3, a, r, k4, k5⟩ := h.l.ltc v j k1
      exact ⟨fun hm => k3 (List.mem_of_mem_erase hm), a, r, hcl2 k2 k4, k5⟩
    · obtain ⟨k1, k2⟩ := (u.wt v j).1 hj
      obtain ⟨k3, a, b, r, k4, k5⟩ := h.l.wtc v j k1
      exact ⟨fun hm => k3 (List.mem_of_mem_erase hm), a, b, r, hcl2 k2 k4, k5⟩
    · obtain ⟨e, hd'⟩ := hcl hd
      obtain ⟨k1, k2⟩ := h.l.wtd j d hd' (fun hm => hf ((htd j e).2 hm))
      exact ⟨k1, fun a b r ec => ⟨(u.wt _ _).2 ⟨(k2 a b r ec).1, e⟩, (u.wt _ _).2 ⟨(k2 a b r ec).2, e⟩⟩⟩
  · intro d hd
    obtain ⟨e, hd'⟩ := hcl hd
    have hs := h.s j (fun hm => hj ((htd j e).2 hm)) d hd'
    have hl : ∀ v, j ∈ m1.lt v ↔ j ∈ m.lt v := fun v => by rw [u.lt]; simp [e]
    match d, hs with
    | [a], ⟨s1, s2⟩ => exact ⟨s1, (hl _).trans s2⟩
    | a :: b :: _, ⟨s1, s2, s3⟩ => exact ⟨s1, (hl _).trans s2, s3⟩
theorem MA.forget (h : MA w ρ L m) (i : Nat) : MA w ρ L { m with cl := upd m.cl i none } where
  lt := h.lt
  hi := h.hi
  at' := fun r => by
    have hk := h.at' r
    cases r with
    | c j => exact fun d hd => hk d (by have hd' : upd m.cl i none j = some d := hd; unfold upd at hd'; split at hd'; cases hd'; exact hd')
    | d j => exact fun d hd => hk d (by have hd' : upd m.cl i none j = some d := hd; unfold upd at hd'; split at hd'; cases hd'; exact hd')
    | _ => exact hk
theorem MA.mapDel (h : MA w ρ L m) {i : Nat} (hi : i ≤ 9223372036854775807) {N : Nat} {D : DataW Nat} (hN : N ≤ m.nx) (hD : ∀ x : Int, -9223372036854775808 ≤ x → x ≤ 9223372036854775807 → D.atKey (.int .i64 x) .nil = atC m.mp L.cb x) (ho : w'.ownsMap (H := Nat) Try.prog 3 ptrElem L.mb N (D.del (.int .i64 (i : Int)))) (hO : Only L.mb w w') : MA w' ρ L { m with mp := upd m.mp i false } where
  lt := h.lt' hO.size
  hi := h.hi
  at' := fun r => by
    have hr := (h.at' .mp).1
    have hk : r ≠ .mp → At ρ w' L m r := fun hne => h.rest hr hO hne
    cases r with
    | mp =>
      refine ⟨hr, N, _, ho, hN, fun x x1 x2 => ?_⟩
      unfold atC
      by_cases e : x = (i : Int)
      · subst e
        rw [atKey_del_same]
        rw [if_neg]
        show ¬ (0 ≤ (i : Int) ∧ upd m.mp i false ((i : Int).toNat) = true)
        rw [Int.toNat_natCast, upd_same]
        simp
      · rw [atKey_del_other (fun e' => e (by injection e')), hD x x1 x2]
        unfold atC
        by_cases h0 : 0 ≤ x
        · have : upd m.mp i false x.toNat = m.mp x.toNat := upd_ne _ _ (fun e' => e (by omega))
          show _ = if 0 ≤ x ∧ upd m.mp i false x.toNat = true then _ else _
          rw [this]
        · rw [if_neg (fun hh => h0 hh.1), if_neg (fun hh => h0 hh.1)]
    | _ => exact hk (by nofun)
end
end Go.Proofs.Ytmlgpnaikdpifaa

namespace Go.Proofs.Ytmlgpnaikdpifaa
open Go.RowKit Go.Maps

/-- What Drop answers, and leaves. -/
def DropR (w : World) (ρ : Nat → Option Rl) (L : Lay) (m : Mc) (i : Int) (b : Bool) (w' : World) : Prop :=
  (b = false ∧ (i < 0 ∨ m.cl i.toNat = none ∨ ∃ c, m.cl i.toNat = some c ∧ isrM m i.toNat c = true) ∧ ∃ t, w' = w.drewN t) ∨
  (b = true ∧ 0 ≤ i ∧ ∃ c, m.cl i.toNat = some c ∧ isrM m i.toNat c = false ∧ ∃ ρ', Chr ρ w ρ' w' ∧ ∃ L', LayE L L' ∧ MA w' ρ' L' (dropM m i.toNat c))
section
variable {w w' : World} {ρ : Nat → Option Rl} {L : Lay} {m : Mc}

set_option maxRecDepth 8000 in
set_option maxHeartbeats 4000000 in
theorem mdrop_any (h : MA w ρ L m) (hI : McI m) (hnx : m.nx ≤ 1000000) (i : Int) (h1 : -9223372036854775808 ≤ i) (h2 : i ≤ 9223372036854775807) :
    Calls Try.prog 23 #[ptrP L, .int .i64 i] w fun e w' => ∃ b, e = .returned (.bool b) ∧ DropR w ρ L m i b w' := by
  have c5 := h.pc.c5
  rcases h.look hI.w.mps i h1 h2 with ⟨c, h0, hc, hrun⟩ | ⟨hc, hrun⟩
  · obtain ⟨n, rfl⟩ := Int.eq_ofNat_of_zero_le h0
    rw [Int.toNat_natCast] at hc hrun
    have HR := Lib.hid (misr_any h hI.w n c hc)
    cases hb : isrM m n c with
    | true =>
      rw [hb] at HR
      have HE : Hid (∀ t, DropR w ρ L m (n : Int) false (w.drewN t)) := fun t => .inl ⟨rfl, .inr (.inr ⟨c, by rw [Int.toNat_natCast]; exact hc, by rw [Int.toNat_natCast]; exact hb⟩), t, rfl⟩
      unfold ptrP at *
      rw [show ptrC L n = .pointer (some ⟨L.cb n, 0, none⟩) from rfl] at hrun HR
      clear h hI hc hb
      go_enter Try.func23, Try.ntmps23
      go_wp2_with fail
      refine HR.out.mono ?_
      rintro e w' ⟨rfl, t, rfl⟩
      go_wp2_with fail
      go_ret
      exact ⟨_, rfl, HE.out _⟩
    | false =>
      rw [hb] at HR
      have hncl := (hI.w.cls n c hc).1
      obtain ⟨N, D, ho, hN, hD⟩ := (h.at' .mp).2
      have HMO : Hid (∀ t, (w.drewN t).ownsMap (H := Nat) Try.prog 3 ptrElem L.mb N D) := fun t => ho
      have HDEL : Hid (∀ t w1, w1.ownsMap (H := Nat) Try.prog 3 ptrElem L.mb N (D.del (.int .i64 (n : Int))) → (w.drewN t).mapTurned w1 L.mb → MA w1 ρ L { m with mp := upd m.mp n false } ∧ Chr ρ w ρ w1) := fun t w1 ho1 ht1 => by
        have hO : Only L.mb (w.drewN t) w1 := ht1.grown
        exact ⟨(h.drewN t).mapDel (i := n) (by omega) hN hD ho1 hO, ((Chr.refl _ _).drewN t).trans (Chr.of_only (h.at' .mp).1 hO)⟩
      have HI := Lib.hid hI
      have HCI := Lib.hid hc
      have HB := Lib.hid hb
      unfold ptrP at *
      have hpc : ptrC L n = .pointer (some ⟨L.cb n, 0, none⟩) := rfl
      rw [hpc] at hrun HR
      clear h hI hc hb ho hD hpc
      go_enter Try.func23, Try.ntmps23
      go_wp2_with fail
      refine HR.out.mono ?_
      rintro e w1 ⟨rfl, t, rfl⟩
      go_wp2_with (at_delete; refine wpList_delete_own _ rfl _ _ 68 3 rfl 73 lawI Try.underlying68 _ L.mb N D rfl (HMO.out t) _ _ rfl (keyI (n : Int) (by omega) (by omega)) ?_; intro w2 ho2 ht2; obtain ⟨hM2, hC2⟩ := HDEL.out t w2 ho2 ht2; have HM2 := Lib.hid hM2; have HC2 := Lib.hid hC2; have c7 := hM2.pc.c7; obtain ⟨da, dc, hds, _⟩ := own_shape hM2.own_td; rw [hds] at c7; have HDS := Lib.hid hds; clear hM2 hC2 ho2 ht2 hds)
      have HWO := Lib.hid (mwithout_any L.tdv m.td n HM2.out.own_td (fun x hx e => by
        obtain ⟨_, d, hd⟩ := HI.out.l.tdF x hx
        exact HM2.out.inj hd HCI.out e) (fun x hx => by
        rcases hx with hx | rfl
        · obtain ⟨_, d, hd⟩ := HI.out.l.tdF x hx
          exact HM2.out.blk hd
        · exact HM2.out.blk HCI.out) (by have := (lst_len HI.out.w HI.out.l).2.2; omega))
      rw [HDS.out, show ptrC L n = .pointer (some ⟨L.cb n, 0, none⟩) from rfl] at HWO
      refine HWO.out.mono ?_
      rintro e w3 ⟨v3, rfl, hap3, ho3⟩
      obtain ⟨a3, k3, rfl, _⟩ := own_shape ho3
      rw [← HDS.out] at hap3
      obtain ⟨ρ3, hM3, hC3, c8, f8⟩ := HM2.out.tdApp hap3 ho3
      rw [HDS.out] at c8
      have HM3 := Lib.hid hM3
      have HC3 := Lib.hid (HC2.out.trans hC3)
      have HL3 : Hid (Lst ({ m with mp := upd m.mp n false, td := m.td.erase n } : Mc)) := ⟨(lst_of HI.out.w HI.out.l hnx).wt, (lst_of HI.out.w HI.out.l hnx).lt, (lst_of HI.out.w HI.out.l hnx).wl, (lst_of HI.out.w HI.out.l hnx).ll⟩
      have HU := Lib.hid (munw_any hM3 n c HCI.out (HI.out.w.cl_lit HCI.out).1 HI.out.w.n (HI.out.w.cl_lit HCI.out).2 HL3.out)
      unfold ptrP at HU
      have hpc : ∀ v, ptrC { L with tdv := v } n = .pointer (some ⟨L.cb n, 0, none⟩) := fun _ => rfl
      rw [hpc] at HU
      clear hM3 hC3 hap3 ho3 HWO c7 hpc
      go_wp2_with fail
      refine HU.out.mono ?_
      rintro e w4 ⟨rfl, ρ4, hC4, L4, hE4, hM4⟩
      have HR4 : Hid (DropR w ρ L m (n : Int) true w4) := .inr ⟨rfl, by omega, c, by rw [Int.toNat_natCast]; exact HCI.out, by rw [Int.toNat_natCast]; exact HB.out, ρ4, HC3.out.trans hC4, L4, ⟨hE4.p, hE4.cb, hE4.cv, hE4.vb⟩, by
        rw [Int.toNat_natCast]
        have h5 := hM4.forget n
        have e5 : (unwM { m with mp := upd m.mp n false, td := m.td.erase n } n c).cl = m.cl := (unwM_keep _ n c).1
        rw [e5] at h5
        exact h5⟩
      clear hC4 hE4 hM4
      go_wp2_with fail
      go_ret
      exact ⟨_, rfl, HR4.out⟩
  · have HE : Hid (DropR w ρ L m i false w) := .inl ⟨rfl, by
      rcases hc with hc | hc
      · exact .inl hc
      · exact .inr (.inl hc), 0, rfl⟩
    unfold ptrP at *
    clear h hI hc
    go_enter Try.func23, Try.ntmps23
    go_wp2_with fail
    go_ret
    exact ⟨_, rfl, HE.out⟩

/-! ### Decide -/
theorem McI.decide (h : McI m) {l : Int} (hr : 1 ≤ plc l ∧ plc l ≤ m.n) (h0 : valL m.vs l = 0) : McI (decM m l) where
  w := h.w.setG hr h0 (.inr ⟨rfl, rfl⟩)
  l := h.l.setG l none _
  s := fun i hi => (h.s i hi).setG h.w h.w.told h0 none _
  r := fun i hi v => by
    show upd m.rs (plc l) none v ≠ some i
    unfold upd
    split
    · simp
    · exact h.r i hi v
def decB (m : Mc) (l : Int) : Bool := isM m.n l && (valL m.vs l == 0)
theorem trl_lt (h : McW m) {l : Int} (hr : 1 ≤ plc l ∧ plc l ≤ m.n) (h0 : valL m.vs l = 0) : m.tr.length < m.n := by
  have := pigV (l := m.tr ++ [l]) (N := m.n) (by
    rw [List.pairwise_append]
    exact ⟨h.one, by simp, fun x hx y hy => by simp at hy; subst hy; exact h.unk h0 x hx⟩) (fun x hx => by
    rw [List.mem_append, List.mem_singleton] at hx
    rcases hx with hx | rfl
    · exact h.rgt hx
    · exact hr)
  rw [List.length_append] at this
  simp at this
  omega
def DecR (w : World) (ρ : Nat → Option Rl) (L : Lay) (m : Mc) (l : Int) (b : Bool) (w' : World) : Prop := (decB m l = false ∧ b = false ∧ w' = w) ∨ (decB m l = true ∧ b = true ∧ ∃ ρ', Chr ρ w ρ' w' ∧ ∃ sv tv, MA w' ρ' { L with stv := sv, trv := tv } (decM m l))

set_option maxRecDepth 8000 in
set_option maxHeartbeats 4000000 in
theorem mdec_any (h : MA w ρ L m) (hI : McI m) (l : Int) (h1 : -9223372036854775807 ≤ l) (h2 : l ≤ 9223372036854775807) :
    Calls Try.prog 18 #[ptrP L, .int .i64 l] w fun e w' => ∃ b, e = .returned (.bool b) ∧ DecR w ρ L m l b w' := by
  have HIS := Lib.hid (mis_any h l h1 h2 hI.w.n)
  have HV := Lib.hid (mval_any h l h1 h2)
  have HD : Hid (decB m l = (isM m.n l && (valL m.vs l == 0))) := rfl
  unfold ptrP at *
  cases hb : isM m.n l with
  | false =>
    rw [hb] at HIS HD
    have HE : Hid (DecR w ρ L m l false w) := .inl ⟨HD.out, rfl, rfl⟩
    clear h hI hb HD
    go_enter Try.func18, Try.ntmps18
    go_wp2_with fail
    refine HIS.out.mono ?_
    rintro e w' ⟨rfl, rfl⟩
    go_wp2_with fail
    go_ret
    exact ⟨_, rfl, HE.out⟩
  | true =>
    rw [hb] at HIS HD
    by_cases hv : valL m.vs l = 0
    · have HE : Hid (decB m l = true) := by unfold Hid; rw [HD.out, hv]; rfl
      rw [hv] at HV
      have hr := isM_iff.1 hb
      have htr := hI.w.tr_len
      have hst := hI.w.st_len
      have hn := hI.w.n
      have c4 := h.pc.c4
      have c2 := h.pc.c2
      obtain ⟨sa, sc, hss, _⟩ := ro_shape (h.at' .st)
      obtain ⟨ta, tc, hts, _⟩ := ro_shape (h.at' .tr)
      rw [List.length_map] at hss hts
      rw [hss] at c4
      rw [hts] at c2
      have HM := Lib.hid h
      have HSS := Lib.hid hss
      have hos := (h.at' .st).1
      rw [List.length_map] at hos
      have HOS := Lib.hid hos
      have HPL := Lib.hid hr
      have htl : m.tr.length ≤ 4000 := by omega
      have HSB : Hid (m.st.length < 4000) := by
        unfold Hid
        have h3 := pig (N := m.tr.length) (hI.w.sorted.imp fun hlt => Nat.ne_of_lt hlt) hI.w.lt
        have h4 : m.tr.length < m.n := trl_lt hI.w hr hv
        omega
      have hsl : m.st.length ≤ 4000 := by omega
      clear htr hst h hI hb HD hv hss hts hos hr
      go_enter Try.func18, Try.ntmps18
      go_wp2_with fail
      refine HIS.out.mono ?_
      rintro e w' ⟨rfl, rfl⟩
      go_wp2_with fail
      refine HV.out.mono ?_
      rintro e w' ⟨rfl, rfl⟩
      go_wp2_with fail
      have HB : Hid (Below w.heap.size w (w.drew.alloc (.cells #[.int .i64 (m.tr.length : Int)] 3))) := (Below.refl _ _).drew.alloc (Nat.le_refl _) _
      have HA := Lib.hid (HM.out.below HB.out)
      have HCH : Hid (Chr ρ w ρ (w.drew.alloc (.cells #[.int .i64 (m.tr.length : Int)] 3))) := Chr.of_below HB.out
      have hos2 := (HA.out.at' .st).1
      rw [List.length_map, HSS.out] at hos2
      have HOS2 := Lib.hid hos2
      clear hos2
      have hlp := HM.out.lt _ _ HM.out.rp
      have HSRC : Hid ((w.drew.alloc (.cells #[.int .i64 (m.tr.length : Int)] 3)).cell? ((⟨w.heap.size, 0, none⟩ : Addr).add 0) = some (.int .i64 (m.tr.length : Int))) := by
        have := heap_alloc_new w.drew (.cells #[.int .i64 (m.tr.length : Int)] 3)
        exact (cell_of_row _ _ 0 _ _ _ this).trans rfl
      go_region_law (refine step_appC 22 3 (.int .i64 0) 1 8 Try.underlying22 infoInt rfl (by decide) (by decide) rfl _ _ rfl (w.drew.alloc (.cells #[.int .i64 (m.tr.length : Int)] 3)) 0 (.slice sa m.st.length sc) m.st.length _ (some ⟨w.heap.size, 0, none⟩) 1 1 [.int .i64 (m.tr.length : Int)] HOS2.out (Nat.zero_le _) (by omega) rfl (.inr ⟨_, rfl, fun j u hj => by
        match j, hj with
        | 0, hj => simp at hj; subst hj; exact HSRC.out⟩) (fun u hu => by simp at hu; subst hu; rfl) (by simp [Act.eval, Act.put]) (by simp [Act.eval, Act.put]) ?_; intro v5 w5 ho5 hap5; obtain ⟨a5, k5, rfl, _⟩ := own_shape ho5; rw [← HSS.out] at hap5; rw [show (m.st.map fun (s : Nat) => Value.int .i64 (s : Int)) ++ [Value.int .i64 (m.tr.length : Int)] = (m.st ++ [m.tr.length]).map fun (s : Nat) => Value.int .i64 (s : Int) by simp] at ho5; obtain ⟨ρ5, hM5, hC5, k5', f5⟩ := HA.out.stApp hap5 ho5; rw [HSS.out] at k5'; have hlt5 := Nat.lt_of_lt_of_le (HA.out.lt _ _ HA.out.rp) hap5.below.size; have HM5 := Lib.hid hM5; have HC5 := Lib.hid hC5; clear hM5 hC5 ho5 hap5)
      all_goals (
        have HS := Lib.hid (mset_any HM5.out l none HPL.out.2 hn htl (by show (m.st ++ [m.tr.length]).length ≤ 4000; rw [List.length_append]; have := HSB.out; show m.st.length + 1 ≤ 4000; omega))
        unfold ptrP at HS
        rw [show ∀ (K : Lay), ptrO K none = .pointer none from fun _ => rfl] at HS
        go_wp2_with fail
        refine HS.out.mono ?_
        rintro e w6 ⟨rfl, ρ6, hC6, tv, hM6⟩
        have HE6 : Hid (DecR w ρ L m l true w6) := .inr ⟨HE.out, rfl, ρ6, (HCH.out.trans HC5.out).trans hC6, _, tv, hM6⟩
        clear hM6 hC6
        go_wp2_with fail
        go_ret
        exact ⟨_, rfl, HE6.out⟩)
    · have HE : Hid (DecR w ρ L m l false w) := .inl ⟨by rw [HD.out]; simp [hv], rfl, rfl⟩
      have hvb : (valL m.vs l == 0) = false := beq_eq_false_iff_ne.2 hv
      have hvn : (valL m.vs l != 0) = true := bne_iff_ne.2 hv
      clear h hI hb HD hv
      generalize valL m.vs l = y at *
      go_enter Try.func18, Try.ntmps18
      go_wp2_with fail
      refine HIS.out.mono ?_
      rintro e w' ⟨rfl, rfl⟩
      go_wp2_with fail
      refine HV.out.mono ?_
      rintro e w' ⟨rfl, rfl⟩
      go_wp2_with fail
      go_ret
      exact ⟨_, rfl, HE.out⟩

end
end Go.Proofs.Ytmlgpnaikdpifaa

namespace Go.Proofs.Ytmlgpnaikdpifaa
open Go.RowKit

/-- v stands on the trail from s on, ahead of e. -/
def OnTr (m : Mc) (s e v : Nat) : Prop := ∃ p, s ≤ p ∧ p < e ∧ p < m.tr.length ∧ plc (m.tr.getD p 0) = v
/-- How far Back has come: those of the trail from s on, ahead of e, are gone back on. -/
structure BkI (m : Mc) (s e : Nat) (mj : Mc) : Prop where
  en : mj.n = m.n
  etr : mj.tr = m.tr
  eto : mj.told = m.told
  est : mj.st = m.st
  enx : mj.nx = m.nx
  emp : mj.mp = m.mp
  ecl : mj.cl = m.cl
  elv : mj.lv = m.lv
  vv : Vals mj.vs
  vl : mj.vs.length = m.n + 1
  tv : ∀ l, valL mj.vs l = 1 ↔ l ∈ m.tr ∧ ¬ OnTr m s e (plc l)
  rs1 : ∀ v, OnTr m s e v → mj.rs v = none
  rs2 : ∀ v, ¬ OnTr m s e v → mj.rs v = m.rs v
  l : McL mj (· ∈ mj.td)
  ltp : ∀ v, OnTr m s e v → mj.lt v = []
  ltu : ∀ i, i ∉ mj.td → ∀ v, ¬ OnTr m s e v → (i ∈ mj.lt v ↔ i ∈ m.lt v)
  tdm : ∀ i ∈ m.td, i ∈ mj.td
  tdl : ∀ v, OnTr m s e v → ∀ i ∈ m.lt v, i ∈ mj.td
  td : ∀ i ∈ mj.td, i ∈ m.td ∨ ∃ v, OnTr m s e v ∧ i ∈ m.lt v
section
variable {m mj : Mc} {s e : Nat}
theorem OnTr.none (m : Mc) (s v : Nat) : ¬ OnTr m s s v := fun ⟨_, h1, h2, _⟩ => by omega
theorem OnTr.succ {v : Nat} (hse : s ≤ e) (he : e < m.tr.length) : OnTr m s (e + 1) v ↔ OnTr m s e v ∨ v = plc (m.tr.getD e 0) := by
  constructor
  · rintro ⟨p, h1, h2, h3, h4⟩
    by_cases hp : p = e
    · subst hp; exact .inr h4.symm
    · exact .inl ⟨p, h1, by omega, h3, h4⟩
  · rintro (⟨p, h1, h2, h3, h4⟩ | rfl)
    · exact ⟨p, h1, by omega, h3, h4⟩
    · exact ⟨e, hse, by omega, he, rfl⟩
theorem BkI.start (h : McI m) (s : Nat) : BkI m s s m where
  en := rfl
  etr := rfl
  eto := rfl
  est := rfl
  enx := rfl
  emp := rfl
  ecl := rfl
  elv := rfl
  vv := h.w.vv
  vl := h.w.vl
  tv := fun l => by rw [h.w.tv]; simp [OnTr.none m s]
  rs1 := fun v hv => (OnTr.none m s v hv).elim
  rs2 := fun _ _ => rfl
  l := h.l
  ltp := fun v hv => (OnTr.none m s v hv).elim
  ltu := fun _ _ _ _ => Iff.rfl
  tdm := fun _ hi => hi
  tdl := fun v hv => (OnTr.none m s v hv).elim
  td := fun i hi => .inl hi
/-- One more is taken back: its value, its reason, its list. -/
def bkM (mj : Mc) (v : Nat) : Mc := { mj with vs := unsetV mj.vs (v : Int), rs := upd mj.rs v none, lt := upd mj.lt v [] }
theorem valL_unset {V : List Int} {v : Nat} (h1 : 1 ≤ v) (h2 : v < V.length) (k : Int) : valL (unsetV V (v : Int)) k = if plc k = v then 0 else valL V k := by
  unfold unsetV
  rw [if_pos ⟨by omega, by rw [Int.toNat_natCast]; exact h2⟩, Int.toNat_natCast, valL_set _ _ _ h1 h2]
  split
  · split
    · rfl
    · rfl
  · rfl
theorem BkI.mid (h : BkI m s e mj) (v : Nat) : McL (bkM mj v) (· ∈ mj.td) := by
  refine { h.l with ltN := fun y => ?_, ltc := fun y i hi => ?_ }
  · show (upd mj.lt v [] y).Nodup
    unfold upd; split
    · simp
    · exact h.l.ltN y
  · have hi' : i ∈ upd mj.lt v [] y := hi
    unfold upd at hi'
    split at hi'
    · simp at hi'
    · exact h.l.ltc y i hi'
theorem BkI.step (hw : McW m) (h : BkI m s e mj) (hse : s ≤ e) (he : e < m.tr.length) : BkI m s (e + 1) (looM (bkM mj (plc (m.tr.getD e 0))) (mj.lt (plc (m.tr.getD e 0)))) := by
  obtain ⟨v, hv⟩ : ∃ v, plc (m.tr.getD e 0) = v := ⟨_, rfl⟩
  have hon : ∀ y, OnTr m s (e + 1) y ↔ OnTr m s e y ∨ y = v := fun y => by rw [OnTr.succ hse he, hv]
  rw [hv]
  have hr := hw.rgt (getD_mem' he)
  rw [hv] at hr
  have hnv : ¬ OnTr m s e v := fun ⟨p, h1, h2, h3, h4⟩ => by
    have := hw.at_one h3 he (by rw [h4, hv])
    omega
  have hmid := h.mid v
  have h1 : ∀ i ∈ mj.lt v, i ∉ (bkM mj v).td := fun i hi => (h.l.ltc v i hi).1
  have h2 : ∀ i ∈ mj.lt v, ∃ c, (bkM mj v).cl i = some c := fun i hi => by obtain ⟨_, a, r, hc, _⟩ := h.l.ltc v i hi; exact ⟨_, hc⟩
  have u := unwA_spec (mj.lt v) hmid h1 h2
  have he2 := looM_eq hmid h1 h2
  have hL := hmid.loosen (h.l.ltN v) h1 h2
  have hlt : ∀ y i, i ∈ (looM (bkM mj v) (mj.lt v)).lt y ↔ (y ≠ v ∧ i ∈ mj.lt y) ∧ i ∉ mj.lt v := fun y i => by
    show i ∈ (unwA (bkM mj v) (mj.lt v)).lt y ↔ _
    rw [u.lt]
    show i ∈ upd mj.lt v [] y ∧ _ ↔ _
    unfold upd
    by_cases ey : y = v
    · rw [if_pos ey]; simp [ey]
    · rw [if_neg ey]; simp [ey]
  have htd : ∀ i, i ∈ (looM (bkM mj v) (mj.lt v)).td ↔ i ∈ mj.td ∨ i ∈ mj.lt v := fun i => by
    show i ∈ mj.td ++ mj.lt v ↔ _
    rw [List.mem_append]
  have hvs : (looM (bkM mj v) (mj.lt v)).vs = unsetV mj.vs (v : Int) := by rw [he2]; rfl
  have hrs : (looM (bkM mj v) (mj.lt v)).rs = upd mj.rs v none := by rw [he2]; rfl
  refine { en := by rw [he2]; exact h.en, etr := by rw [he2]; exact h.etr, eto := by rw [he2]; exact h.eto, est := by rw [he2]; exact h.est, enx := by rw [he2]; exact h.enx, emp := by rw [he2]; exact h.emp, ecl := by rw [he2]; exact h.ecl, elv := by rw [he2]; exact h.elv, vv := by rw [hvs]; exact h.vv.unsetV _, vl := by rw [hvs, unsetV_len]; exact h.vl, tv := fun l => ?_, rs1 := fun y hy => ?_, rs2 := fun y hy => ?_, l := ?_, ltp := fun y hy => ?_, ltu := fun i hi y hy => ?_, tdm := fun i hi => (htd i).2 (.inl (h.tdm i hi)), tdl := fun y hy i hi => ?_, td := fun i hi => ?_ }
  · rw [hvs, valL_unset hr.1 (by rw [h.vl]; omega), hon]
    by_cases ey : plc l = v
    · rw [if_pos ey]; simp [ey]
    · rw [if_neg ey, h.tv]; simp [ey]
  · rw [hrs]
    unfold upd
    split
    · rfl
    · rename_i ey
      exact h.rs1 y (((hon y).1 hy).resolve_right ey)
  · rw [hrs]
    have ey : y ≠ v := fun ey => hy ((hon y).2 (.inr ey))
    rw [upd_ne _ _ ey]
    exact h.rs2 y fun hh => hy ((hon y).2 (.inl hh))
  · exact hL.congr (fun i => (htd i).symm) rfl rfl rfl rfl (fun _ hl => hl)
  · refine List.eq_nil_iff_forall_not_mem.2 fun i hi => ?_
    obtain ⟨⟨k1, k2⟩, _⟩ := (hlt y i).1 hi
    have := h.ltp y (((hon y).1 hy).resolve_right k1)
    rw [this] at k2
    simp at k2
  · rw [htd, not_or] at hi
    have ey : y ≠ v := fun ey => hy ((hon y).2 (.inr ey))
    rw [hlt]
    have := h.ltu i hi.1 y (fun hh => hy ((hon y).2 (.inl hh)))
    rw [this]
    simp [ey, hi.2]
  · rw [htd]
    rcases (hon y).1 hy with hy | rfl
    · exact .inl (h.tdl y hy i hi)
    · by_cases hm : i ∈ mj.td
      · exact .inl hm
      · exact .inr ((h.ltu i hm y hnv).2 hi)
  · rw [htd] at hi
    rcases hi with hi | hi
    · rcases h.td i hi with h3 | ⟨y, h3, h4⟩
      · exact .inl h3
      · exact .inr ⟨y, (hon y).2 (.inl h3), h4⟩
    · have hm := (h.l.ltc v i hi).1
      exact .inr ⟨v, (hon v).2 (.inr rfl), (h.ltu i hm v hnv).1 hi⟩

/-- The trail is cut. -/
def cutM (mj : Mc) (s k : Nat) : Mc := { mj with tr := mj.tr.take s, st := mj.st.take k, told := min mj.told s }
theorem st_lt (h : McW m) {k : Nat} (hk : k < m.st.length) : ∀ x ∈ m.st.take k, x < m.st.getD k 0 := fun x hx => by
  obtain ⟨i, hi, rfl⟩ := List.getElem_of_mem hx
  rw [List.length_take] at hi
  have hi : i < k ∧ i < m.st.length := by omega
  rw [List.getElem_take, show m.st.getD k 0 = m.st[k] by simp [List.getD, hk]]
  exact List.pairwise_iff_getElem.1 h.sorted i k (by omega) hk hi.1
theorem st_ge (h : McW m) {k : Nat} (hk : k < m.st.length) : ∀ x ∈ m.st.drop k, m.st.getD k 0 ≤ x := fun x hx => by
  obtain ⟨i, hi, rfl⟩ := List.getElem_of_mem hx
  simp at hi
  rw [List.getElem_drop, show m.st.getD k 0 = m.st[k] by simp [List.getD, hk]]
  rcases Nat.eq_zero_or_pos i with rfl | h0
  · simp
  · exact Nat.le_of_lt (List.pairwise_iff_getElem.1 h.sorted k (k + i) hk (by omega) (by omega))
theorem cnt_cut (h : McW m) {k : Nat} (hk : k < m.st.length) {i : Nat} (hi : i < m.st.getD k 0) : (m.st.take k).countP (fun x => decide (x ≤ i)) = m.st.countP fun x => decide (x ≤ i) := by
  conv => rhs; rw [← List.take_append_drop k m.st, List.countP_append]
  have : (m.st.drop k).countP (fun x => decide (x ≤ i)) = 0 := by
    rw [List.countP_eq_zero]
    intro x hx
    have := st_ge h hk x hx
    simp; omega
  omega
theorem cnt_low (h : McW m) {k : Nat} (hk : k < m.st.length) {i : Nat} (hi : i < m.st.getD k 0) : m.st.countP (fun x => decide (x ≤ i)) ≤ k := by
  rw [← cnt_cut h hk hi]
  refine Nat.le_trans List.countP_le_length ?_
  rw [List.length_take]; omega
theorem cnt_high (h : McW m) {k : Nat} (hk : k < m.st.length) {i : Nat} (hi : m.st.getD k 0 ≤ i) : k < m.st.countP fun x => decide (x ≤ i) := by
  have h1 : (m.st.take (k + 1)).countP (fun x => decide (x ≤ i)) = k + 1 := by
    have : (m.st.take (k + 1)).length = k + 1 := by rw [List.length_take]; omega
    refine (List.countP_eq_length.2 fun x hx => ?_).trans this
    rw [List.take_succ_eq_append_getElem hk, List.mem_append, List.mem_singleton] at hx
    have e : m.st.getD k 0 = m.st[k] := by simp [List.getD, hk]
    rcases hx with hx | hx
    · have := st_lt h hk x hx; simp; omega
    · simp; omega
  have h2 : (m.st.take (k + 1)).countP (fun x => decide (x ≤ i)) ≤ m.st.countP fun x => decide (x ≤ i) := by
    conv => rhs; rw [← List.take_append_drop (k + 1) m.st, List.countP_append]
    omega
  omega
theorem BkI.done (h : McI m) {k : Nat} (hk : k < m.st.length) (hb : BkI m (m.st.getD k 0) m.tr.length mj) : McI (cutM mj (m.st.getD k 0) k) := by
  have hw := h.w
  have hs : m.st.getD k 0 < m.tr.length := hw.lt _ (by rw [show m.st.getD k 0 = m.st[k] by simp [List.getD, hk]]; exact List.getElem_mem hk)
  obtain ⟨s, hsd⟩ : ∃ s, m.st.getD k 0 = s := ⟨_, rfl⟩
  rw [hsd] at hb hs ⊢
  have htr : mj.tr = m.tr := hb.etr
  have hst : mj.st = m.st := hb.est
  have htold : mj.told = m.told := hb.eto
  have hlv : mj.lv = m.lv := hb.elv
  have hcl : mj.cl = m.cl := hb.ecl
  have hmp : mj.mp = m.mp := hb.emp
  have hnx : mj.nx = m.nx := hb.enx
  have hnn : mj.n = m.n := hb.en
  have hlen : (m.tr.take s).length = s := by rw [List.length_take]; omega
  have hget : ∀ i, i < s → (m.tr.take s).getD i 0 = m.tr.getD i 0 := fun i hi => by simp [List.getD, List.getElem?_take, hi]
  -- where a variable stands
  have hon : ∀ p, p < m.tr.length → (OnTr m s m.tr.length (plc (m.tr.getD p 0)) ↔ s ≤ p) := fun p hp => by
    constructor
    · rintro ⟨q, h1, h2, h3, h4⟩
      rw [← hw.at_one h3 hp h4]; exact h1
    · exact fun h1 => ⟨p, h1, hp, hp, rfl⟩
  have hmem : ∀ l, l ∈ m.tr.take s ↔ l ∈ m.tr ∧ ¬ OnTr m s m.tr.length (plc l) := fun l => by
    constructor
    · intro hl
      obtain ⟨p, h1, h2, rfl⟩ := tr_of_take hl
      exact ⟨getD_mem' h1, fun hh => by have := (hon p h1).1 hh; omega⟩
    · rintro ⟨hl, hn⟩
      obtain ⟨p, hp, rfl⟩ := tr_mem_pos hl
      exact tr_mem_take hp (Nat.lt_of_not_le fun hh => hn ((hon p hp).2 hh))
  have hlow : ∀ p, p < s → m.lv (plc (m.tr.getD p 0)) ≤ k := fun p hp => by rw [hw.lvl p (by omega)]; exact cnt_low hw hk (by omega)
  have hhigh : ∀ p, s ≤ p → p < m.tr.length → k < m.lv (plc (m.tr.getD p 0)) := fun p h1 h2 => by rw [hw.lvl p h2]; exact cnt_high hw hk (by omega)
  refine { w := ?_, l := ?_, s := fun i hi => ?_, r := fun i hi v hv => ?_ }
  · refine { n := by show mj.n ≤ 4000; rw [hnn]; exact hw.n, vl := by show mj.vs.length = mj.n + 1; rw [hnn]; exact hb.vl, vv := hb.vv, tv := fun l => ?_, one := ?_, told := ?_, sorted := ?_, lt := ?_, lvl := fun i hi => ?_, mps := fun i => ?_, cls := fun i c hc => ?_, rs0 := fun v hv => ?_, dec := fun i hi hi2 => ?_, rsn := fun i hi hi2 => ?_ }
    · show valL mj.vs l = 1 ↔ l ∈ mj.tr.take s
      rw [htr, hmem, hb.tv]
    · show (mj.tr.take s).Pairwise _
      rw [htr]; exact hw.one.sublist (List.take_sublist _ _)
    · show min mj.told s ≤ (mj.tr.take s).length
      rw [htr, hlen]; omega
    · show (mj.st.take k).Pairwise _
      rw [hst]; exact hw.sorted.sublist (List.take_sublist _ _)
    · show ∀ x ∈ mj.st.take k, x < (mj.tr.take s).length
      rw [hst, htr, hlen]
      intro x hx
      have := st_lt hw hk x hx
      omega
    · have hi' : i < s := by have hi2 : i < (mj.tr.take s).length := hi; rw [htr, hlen] at hi2; exact hi2
      show mj.lv (plc ((mj.tr.take s).getD i 0)) = (mj.st.take k).countP _
      rw [hlv, htr, hst, hget i hi', hw.lvl i (by omega), cnt_cut hw hk (by omega)]
    · show mj.mp i = (mj.cl i).isSome
      rw [hmp, hcl]; exact hw.mps i
    · have hc' : mj.cl i = some c := hc
      rw [hcl] at hc'
      show i < mj.nx ∧ _ ∧ ∀ l ∈ c, (1 ≤ plc l ∧ plc l ≤ mj.n) ∧ -l ∉ c
      rw [hnx, hnn]
      exact hw.cls i c hc'
    · show mj.rs v = none
      by_cases ho : OnTr m s m.tr.length v
      · exact hb.rs1 v ho
      · rw [hb.rs2 v ho]
        refine hw.rs0 v fun l hl e => ?_
        have hv' : ∀ l ∈ mj.tr.take s, plc l ≠ v := hv
        rw [htr] at hv'
        exact hv' l ((hmem l).2 ⟨hl, by rw [e]; exact ho⟩) e
    · have hi' : i < s := by have hi2 : i < (mj.tr.take s).length := hi; rw [htr, hlen] at hi2; exact hi2
      have hi3 : i ∈ mj.st.take k := hi2
      rw [hst] at hi3
      show mj.rs (plc ((mj.tr.take s).getD i 0)) = none
      rw [htr, hget i hi', hb.rs2 _ (fun hh => by have := (hon i (by omega)).1 hh; omega)]
      exact hw.dec i (by omega) (List.mem_of_mem_take hi3)
    · have hi' : i < s := by have hi2 : i < (mj.tr.take s).length := hi; rw [htr, hlen] at hi2; exact hi2
      have hi3 : i ∉ mj.st.take k := hi2
      rw [hst] at hi3
      show ∃ q c, mj.rs (plc ((mj.tr.take s).getD i 0)) = some q ∧ mj.cl q = some ((mj.tr.take s).getD i 0 :: c) ∧ ∀ l ∈ c, -l ∈ (mj.tr.take s).take i
      rw [htr, hcl, hget i hi', hb.rs2 _ (fun hh => by have := (hon i (by omega)).1 hh; omega), List.take_take, Nat.min_eq_left (by omega)]
      refine hw.rsn i (by omega) fun hm => hi3 ?_
      rw [← List.take_append_drop k m.st, List.mem_append] at hm
      exact hm.resolve_right fun hm => by have := st_ge hw hk i hm; omega
  · refine { hb.l with ltc := fun v i hi => ?_ }
    obtain ⟨h1, a, r, h2, h3, h4⟩ := hb.l.ltc v i hi
    refine ⟨h1, a, r, h2, h3, ?_⟩
    show a ∈ mj.tr.take s
    rw [htr] at h4 ⊢
    refine (hmem a).2 ⟨h4, fun ho => ?_⟩
    have hi' : i ∈ mj.lt v := hi
    rw [hb.ltp v (h3 ▸ ho)] at hi'
    simp at hi'
  · have hi' : i ∉ mj.td := hi
    have him : i ∉ m.td := fun hm => hi' (hb.tdm i hm)
    intro c hc
    have hc' : mj.cl i = some c := hc
    rw [hcl] at hc'
    have hs0 := h.s i him c hc'
    have htk : (mj.tr.take s).take (min mj.told s) = m.tr.take (min m.told s) := by rw [htr, htold, List.take_take, Nat.min_eq_left (Nat.min_le_right _ _)]
    have hsub : ∀ l, l ∈ m.tr.take (min m.told s) → l ∈ m.tr.take m.told := fun l hl => by
      obtain ⟨p, h1, h2, rfl⟩ := tr_of_take hl
      exact tr_mem_take h1 (by omega)
    match c, hs0 with
    | [a], ⟨h1, h2⟩ =>
      show a ∈ mj.tr.take s ∧ (i ∈ mj.lt (plc a) ↔ 0 < mj.lv (plc a))
      rw [htr, hlv]
      obtain ⟨p, hp, rfl⟩ := tr_mem_pos h1
      have hps : p < s := Nat.lt_of_not_le fun hh => by
        have := hhigh p hh hp
        exact hi' (hb.tdl _ ((hon p hp).2 hh) i (h2.2 (by omega)))
      refine ⟨tr_mem_take hp hps, ?_⟩
      rw [hb.ltu i hi' _ (fun hh => by have := (hon p hp).1 hh; omega)]
      exact h2
    | a :: b :: _, ⟨h1, h2, h3⟩ =>
      show -a ∉ (mj.tr.take s).take (min mj.told s) ∧ (i ∈ mj.lt (plc a) ↔ -b ∈ (mj.tr.take s).take (min mj.told s) ∧ mj.lv (plc b) < mj.lv (plc a)) ∧ (-b ∈ (mj.tr.take s).take (min mj.told s) → a ∈ mj.tr.take s)
      rw [htk, htr, hlv]
      have k3 : -b ∈ m.tr.take (min m.told s) → ∃ p, p < s ∧ p < m.tr.length ∧ m.tr.getD p 0 = a := fun hm => by
        have hm2 := hsub _ hm
        obtain ⟨p, hp, rfl⟩ := tr_mem_pos (h3 hm2)
        refine ⟨p, Nat.lt_of_not_le fun hh => ?_, hp, rfl⟩
        obtain ⟨q, hq, hqs, e⟩ := tr_of_take hm
        have h4 := hhigh p hh hp
        have h5 := hlow q (by omega)
        rw [e, plc_ng] at h5
        exact hi' (hb.tdl _ ((hon p hp).2 hh) i (h2.2 ⟨hm2, by omega⟩))
      refine ⟨fun hm => h1 (hsub _ hm), ?_, fun hm => by obtain ⟨p, h4, h5, rfl⟩ := k3 hm; exact tr_mem_take h5 h4⟩
      by_cases ho : OnTr m s m.tr.length (plc a)
      · rw [hb.ltp _ ho]
        refine ⟨fun hm => by simp at hm, fun ⟨hm, _⟩ => ?_⟩
        obtain ⟨p, h4, h5, rfl⟩ := k3 hm
        have := (hon p h5).1 ho
        omega
      · rw [hb.ltu i hi' _ ho, h2]
        refine ⟨fun ⟨hm, hl⟩ => ⟨?_, hl⟩, fun ⟨hm, hl⟩ => ⟨hsub _ hm, hl⟩⟩
        have ha := h3 hm
        obtain ⟨p, hp, e⟩ := tr_mem_pos ha
        obtain ⟨q, hq, hqt, e2⟩ := tr_of_take hm
        have hps : p < s := Nat.lt_of_not_le fun hh => ho (by rw [← e]; exact (hon p hp).2 hh)
        have : q < p := hw.pos_lt hq hp (by rw [e, e2, plc_ng]; exact hl)
        rw [← e2]
        exact tr_mem_take hq (by omega)
  · have hi' : i ∈ mj.td := hi
    have hv' : mj.rs v = some i := hv
    have ho : ¬ OnTr m s m.tr.length v := fun ho => by rw [hb.rs1 v ho] at hv'; cases hv'
    rw [hb.rs2 v ho] at hv'
    rcases hb.td i hi' with h1 | ⟨y, h1, h2⟩
    · exact h.r i h1 v hv'
    · obtain ⟨_, a, r, h3, h4, _⟩ := h.l.ltc y i h2
      obtain ⟨p, c0, _, h6, h7⟩ := hw.rs_head hv'
      rw [h3] at h7
      injection h7 with h7
      injection h7 with h7 _
      rw [← h7, h4] at h6
      exact ho (h6 ▸ h1)
end
end Go.Proofs.Ytmlgpnaikdpifaa

namespace Go.Proofs.Ytmlgpnaikdpifaa
open Go.RowKit

def rdel (ρ : Nat → Option Rl) (v : Value) : Nat → Option Rl := fun b => if v.ownBlock = some b then none else ρ b
/-- How far Back has come, in memory. -/
structure BkM (w : World) (ρ : Nat → Option Rl) (L : Lay) (m : Mc) (s e : Nat) (wr : World) (ρ1 : Nat → Option Rl) (L1 : Lay) (mj : Mc) : Prop where
  chr : Chr ρ w ρ1 wr
  lay : LayU L L1
  ma : MA wr ρ1 L1 mj
  i : BkI m s e mj
def BackR (w : World) (ρ : Nat → Option Rl) (L : Lay) (m : Mc) (k : Int) (w' : World) : Prop :=
  (m.st.length ≤ k.toNat ∧ w' = w) ∨ (k.toNat < m.st.length ∧ ∃ ρ' L' mj, Chr ρ w ρ' w' ∧ L'.p = L.p ∧ L'.cb = L.cb ∧ MA w' ρ' L' (cutM mj (m.st.getD k.toNat 0) k.toNat) ∧ BkI m (m.st.getD k.toNat 0) m.tr.length mj)
section
variable {w wr : World} {ρ ρ1 : Nat → Option Rl} {L L1 : Lay} {m mj : Mc} {s e : Nat}
theorem MA.clearL (h : MA w ρ L m) {v : Nat} (hv : v ≤ m.n) :
    MA (w.setCell ⟨L.vb, v * 5 + 4, none⟩ nilS) (rdel ρ (L.lw v)) { L with lw := upd L.lw v nilS } { m with lt := upd m.lt v [] } ∧ Chr ρ w (rdel ρ (L.lw v)) (w.setCell ⟨L.vb, v * 5 + 4, none⟩ nilS) ∧ LocR (rdel ρ (L.lw v)) (w.setCell ⟨L.vb, v * 5 + 4, none⟩ nilS) { L with lw := upd L.lw v nilS } (L.lw v) (m.lt v) := by
  have hl := (h.at' (.l v)).2
  have hne : ∀ b r, ρ b = some r → r ≠ .l v → rdel ρ (L.lw v) b = some r := fun b r hb hr => by
    unfold rdel
    rw [if_neg fun e => hr ?_]
    · exact hb
    · have := hl b e
      rw [hb] at this
      injection this
  have hP : Part w (rdel ρ (L.lw v)) L m (.l v) := by
    refine ⟨fun b r hb => ?_, h.hi, fun r hr => (h.at' r).keep (fun b hb => h.lt b r hb) (Nat.le_refl _) fun b hb => ⟨hne b r hb hr, rfl⟩⟩
    unfold rdel at hb
    split at hb
    · cases hb
    · exact h.lt b r hb
  have hvb := hne _ _ h.rv (by nofun)
  have hC : Chr ρ w (rdel ρ (L.lw v)) w := ⟨rfl, rfl, rfl, Nat.le_refl _, fun _ _ _ => rfl, fun i _ hn => by unfold rdel; split; (· rfl); (· exact hn)⟩
  refine ⟨hP.setL hv ⟨World.ownsRow_nil _ _ _ _, fun k hk => by cases hk⟩, hC.setCell hvb _, ?_, fun k hk => by unfold rdel; rw [if_pos hk]⟩
  refine own_out (h.own_l v) (fun e => ?_) _ _
  have := hl _ e
  rw [h.rv] at this
  cases this
theorem BkM.drewN (h : BkM w ρ L m s e wr ρ1 L1 mj) (t : Nat) : BkM w ρ L m s e (wr.drewN t) ρ1 L1 mj := { h with chr := h.chr.drewN t, ma := h.ma.drewN t }

/-- Its value is known no more. -/
theorem BkM.unset (h : BkM w ρ L m s e wr ρ1 L1 mj) (l : Int) (hl : plc l ≤ 4000) :
    Calls Try.prog 53 #[.pointer (some ⟨L1.ap, 0, none⟩), .int .i64 (absI l)] wr fun e' w' => e' = .returned (.tuple #[]) ∧ Chr ρ w ρ1 w' ∧ MA w' ρ1 L1 { mj with vs := unsetV mj.vs (plc l : Int) } := by
  have e := plc_abs l
  have := unset_any h.ma.asg (absI l) (by omega) (by omega)
  rw [← e] at this ⊢
  refine this.mono ?_
  rintro e' w' ⟨he, ha, ho⟩
  exact ⟨he, h.chr.trans (Chr.of_only (h.ma.at' .a).2.1 ho), h.ma.asgSet ho ha⟩

/-- What it was late for is to be looked at. -/
theorem BkM.loose (h : BkI m s e mj) (hI : McI m) (hse : s ≤ e) (he : e < m.tr.length) (hnx : m.nx ≤ 1000000) (hlay : LayU L L1) {W : World} (hC : Chr ρ w ρ1 W) (hM : MA W ρ1 L1 { mj with vs := unsetV mj.vs (plc (m.tr.getD e 0) : Int), rs := upd mj.rs (plc (m.tr.getD e 0)) none }) :
    Calls Try.prog 56 #[.pointer (some ⟨L.p, 0, none⟩), L1.lw (plc (m.tr.getD e 0))] (W.setCell ⟨L1.vb, plc (m.tr.getD e 0) * 5 + 4, none⟩ nilS) fun e' w' => e' = .returned (.tuple #[]) ∧ ∃ ρ2 L2 m2, BkM w ρ L m s (e + 1) w' ρ2 L2 m2 := by
  have hr := hI.w.rgt (getD_mem' he)
  obtain ⟨h1, h2, h3⟩ := hM.clearL (v := plc (m.tr.getD e 0)) (by show _ ≤ mj.n; rw [h.en]; exact hr.2)
  have hst := h.step hI.w hse he
  obtain ⟨v, hv⟩ : ∃ v, plc (m.tr.getD e 0) = v := ⟨_, rfl⟩
  rw [hv] at h1 h2 h3 hst ⊢
  have hmid := h.mid v
  have hcl : ∀ y c, mj.cl y = some c → (∀ l ∈ c, plc l ≤ mj.n) ∧ c.length ≤ 1000000 := fun y c hc => by rw [h.en]; exact hI.w.cl_lit (by rw [← h.ecl]; exact hc)
  have hb1 : ∀ j, ((bkM mj v).wt j).length ≤ m.nx := fun j => pig (hmid.wtN j) fun y hy => by
    obtain ⟨_, a, b, r, h4, _⟩ := hmid.wtc j y hy
    have h5 : mj.cl y = some (a :: b :: r) := h4
    rw [h.ecl] at h5
    exact (hI.w.cls y _ h5).1
  have hb2 : ∀ j, ((bkM mj v).lt j).length ≤ m.nx := fun j => pig (hmid.ltN j) fun y hy => by
    obtain ⟨_, a, r, h4, _⟩ := hmid.ltc j y hy
    have h5 : mj.cl y = some (a :: r) := h4
    rw [h.ecl] at h5
    exact (hI.w.cls y _ h5).1
  have hb3 : (mj.lt v).length ≤ m.nx := pig (h.l.ltN v) fun y hy => by
    obtain ⟨_, a, r, h4, _⟩ := h.l.ltc v y hy
    rw [h.ecl] at h4
    exact (hI.w.cls y _ h4).1
  have hb4 : mj.td.length ≤ m.nx := pig h.l.tdn fun y hy => by
    obtain ⟨_, c, h4⟩ := h.l.tdF y hy
    rw [h.ecl] at h4
    exact (hI.w.cls y _ h4).1
  have hL : Lst (bkM mj v) := ⟨fun j y hy => by obtain ⟨_, a, b, r, h4, _⟩ := hmid.wtc j y hy; exact ⟨_, h4⟩, fun j y hy => by obtain ⟨_, a, r, h4, _⟩ := hmid.ltc j y hy; exact ⟨_, h4⟩, fun j => by have := hb1 j; omega, fun j => by have := hb2 j; omega⟩
  have hlo := mloo_any (m := bkM mj v) h1 _ _ h3 (fun y hy => by obtain ⟨_, a, r, h4, _⟩ := h.l.ltc v y hy; exact ⟨_, h4⟩) hcl (by show mj.n ≤ 4000; rw [h.en]; exact hI.w.n) hL (by show (mj.lt v).length ≤ _; omega) (by show mj.td.length ≤ _; omega)
  unfold ptrP at hlo
  rw [show ({ L1 with lw := upd L1.lw v nilS } : Lay).p = L.p from hlay.p] at hlo
  refine hlo.mono ?_
  rintro e' w' ⟨he', ρ2, hC2, L2, hE2, hM2⟩
  exact ⟨he', ρ2, L2, _, (hC.trans h2).trans hC2, ⟨⟨hE2.p, hE2.cb.trans hlay.cb, hE2.cv.trans hlay.cv, hE2.vb.trans hlay.vb⟩, hE2.trv.trans hlay.trv, hE2.stv.trans hlay.stv⟩, hM2, hst⟩
/-- The trail and the levels are cut. -/
theorem BkM.cut (h : BkM w ρ L m s e wr ρ1 L1 mj) {k : Nat} (hs : s ≤ m.tr.length) (hk : k ≤ m.st.length) {ta sa : Option Addr} {tc sc : Nat} (ht : L.trv = .slice ta m.tr.length tc) (hst : L.stv = .slice sa m.st.length sc) :
    ∃ ρ' L', Chr ρ w ρ' (((wr.setCell ⟨L.p, 2, none⟩ (.slice ta s tc)).setCell ⟨L.p, 4, none⟩ (.slice sa k sc)).setCell ⟨L.p, 3, none⟩ (.int .i64 ((min m.told s : Nat) : Int))) ∧ L'.p = L.p ∧ L'.cb = L.cb ∧ MA (((wr.setCell ⟨L.p, 2, none⟩ (.slice ta s tc)).setCell ⟨L.p, 4, none⟩ (.slice sa k sc)).setCell ⟨L.p, 3, none⟩ (.int .i64 ((min m.told s : Nat) : Int))) ρ' L' (cutM mj s k) := by
  have pre : ∀ {a : Option Addr} {n c q : Nat} {xs : List Value} {W : World} {E : TypeId}, W.ownsRow 0 E 1 (.slice a n c) n xs → q ≤ n → W.ownsRow 0 E 1 (.slice a q c) q (xs.take q) := fun {a n c q xs W E} ho hq => by
    rcases ho.2 with ⟨e1, e2⟩ | ⟨g, cap, cur, e1, _⟩
    · injection e1 with e1 e3 e4
      subst e1; subst e4
      have : q = 0 := by omega
      subst this
      exact World.ownsRow_nil _ _ _ _
    · injection e1 with e1 _ e3
      subst e1; subst e3
      have hl := ho.1
      refine own_less (m := n - q) (ys := xs.drop q) ?_ (by rw [List.length_take]; omega)
      rw [List.take_append_drop, show q + (n - q) = n by omega]
      exact ho
  have eqb : ∀ (a : Option Addr) (n n' c : Nat), (Value.slice a n c).ownBlock = (Value.slice a n' c).ownBlock := fun a _ _ _ => by cases a <;> rfl
  have etr : L1.trv = .slice ta m.tr.length tc := h.lay.trv.trans ht
  have est : L1.stv = .slice sa m.st.length sc := h.lay.stv.trans hst
  have r1 := (h.ma.at' .tr).1
  rw [List.length_map, etr, h.i.etr] at r1
  have p1 := pre r1 hs
  rw [← List.map_take] at p1
  have b1 : ∀ q, (Value.slice ta s tc).ownBlock = some q → ρ1 q = some .tr := fun q hq => (h.ma.at' .tr).2 q (by rw [etr, eqb _ _ s]; exact hq)
  have hP1 : Part wr ρ1 L1 mj .tr := h.ma.part _
  have hM1 := hP1.setTr (v := .slice ta s tc) (xs := m.tr.take s) ⟨by rw [List.length_map, List.length_take, Nat.min_eq_left hs]; exact p1, b1⟩
  rw [h.lay.p] at hM1
  have r2 := (hM1.at' .st).1
  rw [List.length_map] at r2
  have r2' : (wr.setCell ⟨L.p, 2, none⟩ (.slice ta s tc)).ownsRow 0 3 1 (.slice sa m.st.length sc) m.st.length (m.st.map fun (s : Nat) => Value.int .i64 (s : Int)) := by
    have e1 : ({ L1 with p := L.p, trv := .slice ta s tc } : Lay).stv = .slice sa m.st.length sc := est
    rw [e1] at r2
    have e2 : ({ mj with tr := m.tr.take s } : Mc).st = m.st := h.i.est
    rw [e2] at r2
    exact r2
  have p2 := pre r2' hk
  rw [← List.map_take] at p2
  have b2 : ∀ q, (Value.slice sa k sc).ownBlock = some q → ρ1 q = some .st := fun q hq => (h.ma.at' .st).2 q (by rw [est, eqb _ _ k]; exact hq)
  have hM2 := (hM1.part .st).setSt (v := .slice sa k sc) (xs := m.st.take k) ⟨by rw [List.length_map, List.length_take, Nat.min_eq_left hk]; exact p2, b2⟩
  have hM3 := hM2.setTold (min m.told s)
  have hp := h.ma.rp
  rw [h.lay.p] at hp
  refine ⟨ρ1, { L1 with p := L.p, trv := .slice ta s tc, stv := .slice sa k sc }, ((h.chr.setCell hp _).setCell hp _).setCell hp _, rfl, h.lay.cb, ?_⟩
  unfold cutM
  rw [h.i.etr, h.i.est, h.i.eto]
  exact hM3

set_option maxRecDepth 8000 in
set_option maxHeartbeats 16000000 in
theorem mback_any (h : MA w ρ L m) (hI : McI m) (hnx : m.nx ≤ 1000000) (k : Int) (h1 : -9223372036854775808 ≤ k) (h2 : k ≤ 9223372036854775807) :
    Calls Try.prog 20 #[ptrP L, .int .i64 k] w fun e w' => e = .returned (.tuple #[]) ∧ BackR w ρ L m k w' := by
  have HLV := Lib.hid (mlvl_any h)
  have hstl := hI.w.st_len
  have hn := hI.w.n
  unfold ptrP at *
  obtain ⟨K, hK, hkk⟩ : ∃ K : Nat, k.toNat = K ∧ max k 0 = (K : Int) := ⟨k.toNat, rfl, by omega⟩
  have hmx : (K : Int) = 0 ∧ k < 0 ∨ (k = (K : Int) ∧ 0 < k) ∨ (k = 0 ∧ K = 0) := by omega
  have HK := Lib.hid hK
  by_cases hlt : K < m.st.length
  · obtain ⟨sa, sc, hss, _, _⟩ := ro_shape (h.at' .st)
    obtain ⟨ta, tc, hts, ht1, ht2⟩ := ro_shape (h.at' .tr)
    rw [List.length_map] at hss hts ht1
    unfold maxLen at ht2
    have c4 := h.pc.c4
    have c2 := h.pc.c2
    rw [hss] at c4
    rw [hts] at c2
    have hros := (h.at' .st).1
    rw [List.length_map, hss] at hros
    obtain ⟨gs, cs, e⟩ := own_at hros (by omega)
    injection e with e1 _ e3
    subst e1; subst e3
    obtain ⟨s, hs⟩ : ∃ s, m.st.getD K 0 = s := ⟨_, rfl⟩
    have x4 := own_cell hros (i := K) (u := .int .i64 (s : Int)) (by rw [List.getElem?_map, ← hs]; simp [List.getD, hlt])
    have hsl : s < m.tr.length := by rw [← hs]; exact hI.w.lt _ (by rw [show m.st.getD K 0 = m.st[K] by simp [List.getD, hlt]]; exact List.getElem_mem hlt)
    have hrot := (h.at' .tr).1
    rw [List.length_map, hts] at hrot
    obtain ⟨gt, ct, e⟩ := own_at hrot (by omega)
    injection e with e1 _ e3
    subst e1; subst e3
    have htl : m.tr.length ≤ 4000 := Nat.le_trans hI.w.tr_len hn
    have HM := Lib.hid h
    have HI := Lib.hid hI
    have HS := Lib.hid hs
    have HTS := Lib.hid hts
    have HSS := Lib.hid hss
    have HB0 : Hid (BkM w ρ L m s s w ρ L m) := ⟨Chr.refl _ _, LayU.refl _, h, BkI.start hI s⟩
    have hd1 : ¬ (m.st.length : Int) ≤ (K : Int) := by omega
    have HLT := Lib.hid hlt
    clear h hI hs hss hts hros hrot
    generalize hSL : m.st.length = SL at *
    have HSL := Lib.hid hSL
    clear hSL
    generalize hTL : m.tr.length = TL at *
    have HTL := Lib.hid hTL
    clear hTL
    have hst0 : ¬ tc = s := by omega
    have hd2 : ¬ SL ≤ K := by omega
    have hsl2 : s ≤ TL := by omega
    have hsl3 : (s : Int) ≤ (TL : Int) := by omega
    have hsl4 : (0 : Int) ≤ (s : Int) := by omega
    have step : Hid (Calls Try.prog 20 #[.pointer (some ⟨L.p, 0, none⟩), .int .i64 k] w fun e w' => e = .returned (.tuple #[]) ∧ BackR w ρ L m k w') := by
      unfold Hid
      go_enter Try.func20, Try.ntmps20
      go_upto_region 0 with fail
      go_cut [1] (fun u W => u = .int .i64 (K : Int) ∧ W = w)
      case first =>
        rcases hmx with ⟨e, e2⟩ | ⟨e, e2⟩ | ⟨e, e2⟩
        · have HK0 := Lib.hid (show K = 0 by omega)
          have e3 : ¬ (0 : Int) < k := by omega
          clear e hkk hK hlt hd1
          go_wp2_with fail
          go_meet
          exact ⟨by rw [HK0.out]; rfl, rfl⟩
        · have e3 : ¬ k < 0 := by omega
          go_wp2_with fail
          go_meet
          exact ⟨by first | rfl | rw [e], rfl⟩
        · subst e
          subst e2
          go_wp2_with fail
          go_meet
          exact ⟨rfl, rfl⟩
      case rest =>
        obtain ⟨rfl, rfl⟩ := hcut
        clear hmx hkk
        go_wp2_with fail
        refine HLV.out.mono ?_
        rintro e w1 ⟨rfl, rfl⟩
        go_wp2_with fail
        go_loopw [6, 7, 8, 29] (fun _ _ _ u29 wr => ∃ (j : Nat) (ρ1 : Nat → Option Rl) (L1 : Lay) (mj : Mc), s + j ≤ TL ∧ u29 = .int .i64 (j : Int) ∧ BkM wc ρ L m s (s + j) wr ρ1 L1 mj) (fun _ _ _ u29 _ => TL - (intOf u29).toNat)
        case atStart => exact ⟨0, ρ, L, m, by omega, rfl, HB0.out⟩
        case round =>
          obtain ⟨j, ρ1, L1, mj, hj, rfl, hB⟩ := hrel
          have HB := Lib.hid hB
          have hrow := (hB.ma.at' .tr).1
          rw [List.length_map, hB.lay.trv, HTS.out, hB.i.etr, HTL.out] at hrow
          have c0 := hB.ma.pc.c0
          rw [hB.lay.p] at c0
          by_cases hjl : s + j < TL
          · have x6 := own_cell hrow (i := s + j) (u := .int .i64 (m.tr.getD (s + j) 0)) (by rw [List.getElem?_map]; simp [List.getD, show s + j < m.tr.length by rw [HTL.out]; exact hjl])
            have hpl := (HI.out.w.rgt (getD_mem' (show s + j < m.tr.length by rw [HTL.out]; exact hjl))).2
            obtain ⟨hl1, hl2⟩ := lit_bd hpl hn
            have HVR := Lib.hid (fun W => var_any (m.tr.getD (s + j) 0) W (by omega) (by omega))
            have HUN := Lib.hid (fun t => (hB.drewN t).unset (m.tr.getD (s + j) 0) (by omega))
            have HJL := Lib.hid hjl
            have HPL := Lib.hid hpl
            have hjd : j < TL - s := by omega
            obtain ⟨y, hy⟩ : ∃ y, m.tr.getD (s + j) 0 = y := ⟨_, rfl⟩
            rw [hy] at x6 HVR HUN HPL hl1 hl2
            have HY := Lib.hid hy
            clear hB hrow hpl hy hjl
            go_wp2_with fail
            go_cut [39] (fun _ W => Chr ρ wc ρ1 W ∧ MA W ρ1 L1 { mj with vs := unsetV mj.vs (plc y : Int) })
            case first =>
              go_region_with (first | (refine (HVR.out _).mono ?_; rintro e w5 ⟨rfl, rfl⟩) | (refine (HUN.out _).mono ?_; rintro e w5 ⟨rfl, hu1, hu2⟩; have HU1 := Lib.hid hu1; have HU2 := Lib.hid hu2; clear hu1 hu2))
              all_goals (go_wp2_with fail; go_meet; exact ⟨HU1.out, HU2.out⟩)
            case rest =>
              obtain ⟨hC1, hM1⟩ := hcut
              have hn1 : mj.n ≤ 4000 := by rw [HB.out.i.en]; exact hn
              have hpn : plc y ≤ mj.n := by rw [HB.out.i.en]; exact HPL.out
              have HO := Lib.hid (mof_any hM1 y hpn hn1)
              unfold ptrP at HO
              rw [HB.out.lay.p] at HO
              have HC1 := Lib.hid hC1
              have HM1 := Lib.hid hM1
              have HPN := Lib.hid hpn
              clear hC1 hM1 c0 x6 hpn
              go_wp2_with fail
              refine HO.out.mono ?_
              rintro e w7 ⟨rfl, t7, rfl⟩
              rename World => W7
              have HM2 := Lib.hid (HM1.out.drewN t7)
              have g1 := HM2.out.var (v := plc y) (k := 1) HPN.out (by omega)
              have g4 := HM2.out.var (v := plc y) (k := 4) HPN.out (by omega)
              rw [show vcell L1 { mj with vs := unsetV mj.vs (plc y : Int) } (plc y) 4 = L1.lw (plc y) from rfl] at g4
              have f1 := HM2.out.varF (plc y * 5 + 1)
              have f4 := HM2.out.varF (plc y * 5 + 4)
              obtain ⟨la, lc, hls, _⟩ := own_shape (HM2.out.own_l (plc y))
              have HLS := Lib.hid hls
              rw [hls] at g4
              have hltv := HM2.out.lt _ _ HM2.out.rv
              have HM3 := Lib.hid (HM2.out.setRs HPN.out none)
              rw [show ptrO L1 none = .pointer none from rfl] at HM3
              have HC3 := Lib.hid ((HC1.out.drewN t7).setCell HM2.out.rv (o := plc y * 5 + 1) (.pointer none))
              have HLO : Hid (Calls Try.prog 56 #[.pointer (some ⟨L.p, 0, none⟩), .slice la (mj.lt (plc y)).length lc] (((W7.drewN t7).setCell ⟨L1.vb, plc y * 5 + 1, none⟩ (.pointer none)).setCell ⟨L1.vb, plc y * 5 + 4, none⟩ (.slice none 0 0)) fun e' w' => e' = .returned (.tuple #[]) ∧ ∃ ρ2 L2 m2, BkM wc ρ L m s (s + (j + 1)) w' ρ2 L2 m2) := by
                have hsj : s + j < m.tr.length := by rw [HTL.out]; exact HJL.out
                have h1 := BkM.loose (L := L) HB.out.i HI.out (by omega) hsj hnx HB.out.lay HC3.out (by rw [HY.out]; exact HM3.out)
                rw [HY.out, HLS.out] at h1
                exact h1
              clear hls
              go_wp2_with fail
              refine HLO.out.mono ?_
              rintro e w8 ⟨rfl, ρ2, L2, m2, hB2⟩
              have HB2 := Lib.hid hB2
              clear hB2
              go_wp2_with fail
              go_roundw
              case rel => exact ⟨j + 1, ρ2, L2, m2, by have := HJL.out; omega, by go_num, HB2.out⟩
              case measure => go_light; have := HJL.out; simp [intOf]; omega
          · have hje : s + j = TL := by omega
            have hjd : ¬ j < TL - s := by omega
            have c2' := hB.ma.pc.c2
            have c3' := hB.ma.pc.c3
            have c4' := hB.ma.pc.c4
            have f2 := hB.ma.pc.fr 2
            have f3 := hB.ma.pc.fr 3
            have f4 := hB.ma.pc.fr 4
            have hlp := hB.ma.lt _ _ hB.ma.rp
            rw [hB.lay.p, hB.lay.trv, HTS.out] at c2'
            rw [hB.lay.p, hB.i.eto] at c3'
            rw [hB.lay.p, hB.lay.stv, HSS.out] at c4'
            rw [hB.lay.p] at f2 f3 f4 hlp
            have HFIN : Hid (∃ ρ' L', Chr ρ wc ρ' (((wr.setCell ⟨L.p, 2, none⟩ (.slice (some ⟨gt, 0, none⟩) s tc)).setCell ⟨L.p, 4, none⟩ (.slice (some ⟨gs, 0, none⟩) K sc)).setCell ⟨L.p, 3, none⟩ (.int .i64 ((min m.told s : Nat) : Int))) ∧ L'.p = L.p ∧ L'.cb = L.cb ∧ MA (((wr.setCell ⟨L.p, 2, none⟩ (.slice (some ⟨gt, 0, none⟩) s tc)).setCell ⟨L.p, 4, none⟩ (.slice (some ⟨gs, 0, none⟩) K sc)).setCell ⟨L.p, 3, none⟩ (.int .i64 ((min m.told s : Nat) : Int))) ρ' L' (cutM mj s K)) :=
              HB.out.cut (by rw [HTL.out]; exact hsl2) (by rw [HSL.out]; exact Nat.le_of_lt HLT.out) (by rw [HTL.out]; exact HTS.out) (by rw [HSL.out]; exact HSS.out)
            have HBK : Hid (BkI m s TL mj) := by have := HB.out.i; rw [hje] at this; exact this
            have htold : m.told ≤ 4000 := by have := HI.out.w.told; rw [HTL.out] at this; omega
            have hKsl : K ≤ SL := by have := HLT.out; omega
            have hssc : SL ≤ sc := by
              obtain ⟨a', c', e', h5, _⟩ := ro_shape (HM.out.at' .st)
              rw [HSS.out] at e'
              injection e' with _ _ e3
              rw [List.length_map, HSL.out] at h5
              omega
            have hKsc : K ≤ sc := by omega
            have hstc : s ≤ tc := by omega
            have i1 : (0 : Int) ≤ (K : Int) := by omega
            have i2 : (K : Int) ≤ (SL : Int) := by omega
            have i3 : (K : Int) ≤ (sc : Int) := by omega
            have i4 : (s : Int) ≤ (tc : Int) := by omega
            clear hB hrow c0 hje hjl c2 c4 x4
            obtain ⟨T, hT⟩ : ∃ T, m.told = T := ⟨_, rfl⟩
            rw [hT] at c3' htold HFIN
            have HT := Lib.hid hT
            clear hT
            have HEND : Hid (∀ W, (∃ ρ' L', Chr ρ wc ρ' W ∧ L'.p = L.p ∧ L'.cb = L.cb ∧ MA W ρ' L' (cutM mj s K)) → BackR wc ρ L m k W.drew) := fun W ⟨ρ', L', e1, e2, e3, e4⟩ => .inr ⟨by rw [HK.out, HSL.out]; exact HLT.out, ρ', L', mj, e1.trans (Chr.of_below (Below.refl _ _).drew), e2, e3, by rw [HK.out, HS.out]; exact e4.below (Below.refl _ _).drew, by rw [HK.out, HS.out, HTL.out]; exact HBK.out⟩
            rcases Nat.lt_trichotomy T s with q | q | q
            · have hmn : Hid (min T s = T) := Nat.min_eq_left (Nat.le_of_lt q)
              rw [hmn.out] at HFIN
              have q1 : (T : Int) < (s : Int) := by omega
              have q2 : ¬ (s : Int) < (T : Int) := by omega
              have q3 : ¬ s < T := by omega
              go_wp2_with fail
              go_region
              go_wp2_with fail
              (try simp only [Exit.inBlock, Exit.then])
              refine bodyPost_end (results_none rfl _ _ _) rfl ?_
              exact ⟨rfl, HEND.out _ HFIN.out⟩
            · subst q
              have hmn : Hid (min T T = T) := Nat.min_self _
              rw [hmn.out] at HFIN
              go_wp2_with fail
              go_region
              go_wp2_with fail
              (try simp only [Exit.inBlock, Exit.then])
              refine bodyPost_end (results_none rfl _ _ _) rfl ?_
              exact ⟨rfl, HEND.out _ HFIN.out⟩
            · have hmn : Hid (min T s = s) := Nat.min_eq_right (Nat.le_of_lt q)
              rw [hmn.out] at HFIN
              have q1 : (s : Int) < (T : Int) := by omega
              have q2 : ¬ (T : Int) < (s : Int) := by omega
              have q3 : ¬ T < s := by omega
              go_wp2_with fail
              go_region
              go_wp2_with fail
              (try simp only [Exit.inBlock, Exit.then])
              refine bodyPost_end (results_none rfl _ _ _) rfl ?_
              exact ⟨rfl, HEND.out _ HFIN.out⟩
    exact step.out
  · have hge : m.st.length ≤ K := by omega
    have HE : Hid (BackR w ρ L m k w) := .inl ⟨by rw [hK]; exact hge, rfl⟩
    have hd1 : (m.st.length : Int) ≤ (K : Int) := by omega
    clear h hI hK hlt
    generalize m.st.length = SL at *
    go_enter Try.func20, Try.ntmps20
    go_upto_region 0 with fail
    go_cut [1] (fun u W => u = .int .i64 (K : Int) ∧ W = w)
    case first =>
      rcases hmx with ⟨e, e2⟩ | ⟨e, e2⟩ | ⟨e, e2⟩
      · have HK0 := Lib.hid (show K = 0 by omega)
        have e3 : ¬ (0 : Int) < k := by omega
        clear e hkk hd1
        go_wp2_with fail
        go_meet
        exact ⟨by rw [HK0.out]; rfl, rfl⟩
      · have e3 : ¬ k < 0 := by omega
        go_wp2_with fail
        go_meet
        exact ⟨by first | rfl | rw [e], rfl⟩
      · subst e
        subst e2
        go_wp2_with fail
        go_meet
        exact ⟨rfl, rfl⟩
    case rest =>
      obtain ⟨rfl, rfl⟩ := hcut
      clear hmx hkk
      go_wp2_with fail
      refine HLV.out.mono ?_
      rintro e w1 ⟨rfl, rfl⟩
      go_wp2_with fail
      refine bodyPost_ret (results_none rfl _ _ _) rfl ?_
      exact ⟨rfl, HE.out⟩

end
end Go.Proofs.Ytmlgpnaikdpifaa

namespace Go.Proofs.Ytmlgpnaikdpifaa
open Go.RowKit

theorem run_app_zeros (w : World) (T tn ty E : TypeId) (i : TypeInfo) (z : Value) (kn : IntKind) (size : Nat) (ht : Try.prog.underlying T = some (.slice E)) (htn : Try.prog.underlying tn = some (.int kn)) (hi : Try.prog.info? E = some i) (hz : i.zero = some z) (hs : i.size = size) (hzs : z.cells.size = size) (hsz : 0 < size) (hby : i.bytes ≤ 1000)
    (h1 : ∀ u ∈ z.cells.toList, u.oneCell' = true) (g n cap : Nat) (xs : List Value) (ho : w.ownsRow 0 E size (.slice (some ⟨g, 0, none⟩) n cap) n xs) (k : Nat) (h0 : 0 < k) (hk : n + k ≤ 100000) :
    ∃ v' w', (Builtin.append_ #[T, tn] ty #[.slice (some ⟨g, 0, none⟩) n cap, .int .i64 (k : Int)]).run Try.prog w = .ok v' w' ∧ w'.ownsRow 0 E size v' (n + k) (xs ++ (Builtin.zeroCells z.cells k).toList) ∧ App 0 w w' (.slice (some ⟨g, 0, none⟩) n cap) v' ∧ ∃ g' cap', v' = .slice (some ⟨g', 0, none⟩) (n + k) cap' := by
  subst hs
  have hzl : (Builtin.zeroCells z.cells k).toList.length = k * i.size := by rw [Array.length_toList, size_zeroCells, hzs]
  have hlen : (xs ++ (Builtin.zeroCells z.cells k).toList).length = (n + k) * i.size := by rw [List.length_append, ho.1, hzl, Nat.add_mul]
  have hone : ∀ u ∈ (Builtin.zeroCells z.cells k).toList, u.oneCell' = true := fun u hu => by
    unfold Builtin.zeroCells at hu
    simp only [Array.toList_map, List.mem_map] at hu
    obtain ⟨q, _, rfl⟩ := hu
    have hq : q % z.cells.size < z.cells.size := Nat.mod_lt _ (by omega)
    rw [getElem!_pos z.cells _ hq]
    exact h1 _ (Array.getElem_mem_toList hq)
  rcases ho.2 with ⟨e0, _⟩ | ⟨g', cap', cur, e0, hb, hg, hnc, hcm, hcs, htk⟩
  · cases e0
  · injection e0 with e1 _ e3
    injection e1 with e1
    injection e1 with e1
    subst e1; subst e3
    have hkn : k ≠ 0 := by omega
    have hw : IntKind.i64.wrap (k : Int) = k := by rw [IntKind.wrap_i64]; omega
    have hneg : ¬ ((k : Int) < 0) := by omega
    have hns : ¬ (k * i.size = 0) := Nat.mul_ne_zero hkn (by omega)
    have h48 : k * i.bytes ≤ 281474976710656 := by
      have := Nat.mul_le_mul (show k ≤ 100000 by omega) hby
      omega
    have h48i : ¬ (281474976710656 < (k : Int) * (i.bytes : Int)) := by
      rw [← Int.natCast_mul]
      omega
    by_cases hroom : n + k ≤ cap
    · have hfit : n * i.size + (Builtin.zeroCells z.cells k).toList.length ≤ cur.size := by rw [hzl, hcs, ← Nat.add_mul]; exact Nat.mul_le_mul_right _ hroom
      have hst := run_storeCells_at Try.prog g (n * i.size) E (Builtin.zeroCells z.cells k).toList 0 cur w hg (by simpa using hfit) hone
      simp only [Nat.add_zero] at hst
      refine ⟨.slice (some ⟨g, 0, none⟩) (n + k) cap, w.setRow g (cur.toList.take (n * i.size) ++ (Builtin.zeroCells z.cells k).toList ++ cur.toList.drop (n * i.size + (Builtin.zeroCells z.cells k).toList.length)).toArray, ?_, ⟨hlen, .inr ⟨g, cap, _, rfl, Nat.zero_le _, setRow_heap w g cur _ E _ hg, hroom, hcm, ?_, ?_⟩⟩, ?_, ⟨g, cap, rfl⟩⟩
      · simp [Builtin.append_, run_underlying ht, run_underlying htn, sizeOf, typeInfo, zeroValue, hi, hz, asInt, asIntOf, hw, hneg, hns, h48i, hroom, Addr.add_lit]
        first
          | exact hst
          | (rw [hst]; rfl)
          | simp [hst]
      · have hf2 : n * i.size + (Builtin.zeroCells z.cells k).size ≤ cur.size := by rw [Array.length_toList] at hfit; exact hfit
        simp only [List.size_toArray, List.length_append, List.length_take, List.length_drop, Array.length_toList]
        omega
      · rw [htk, ← hlen]
        exact List.take_left
      · exact ⟨⟨rfl, rfl, rfl, by simp [World.setRow], fun q hq => absurd hq (Nat.not_lt_zero _)⟩, fun q _ hq => setRow_other w g q _ (fun e => hq (by simp [Value.ownBlock, e])), .inl rfl⟩
    · have hold : (Builtin.firstCells i.size n (.slice (some ⟨g, 0, none⟩) n cap)).run Try.prog w.drew = .ok xs.toArray w.drew := run_firstCells_some (P := Try.prog) w.drew i.size n ⟨g, 0, none⟩ n cap xs ho.1 (fun j u hj => ho.cells (g := g) rfl j u hj)
      have hnx : Builtin.nextslicecap (n + k) cap * i.bytes ≤ 281474976710656 := by
        have h2 := growslice_fits (show cap < n + k by omega) (show (n + k) * i.bytes ≤ 140737488355328 by
          have := Nat.mul_le_mul hk hby
          omega)
        exact h2
      have hrun := Lib.run_append_grow_zeros (P := Try.prog) w T tn ty E i z .i64 kn ht htn hi hz (some ⟨g, 0, none⟩) n cap xs hold k h0 hsz (by omega) (by omega) h48 hnx
      have hge := grownCap_ge w (n + k) cap E
      have hcm2 : grownCap w (n + k) cap E ≤ maxLen := grownCap_le_maxLen w (n + k) cap E (by unfold maxLen; omega)
      refine ⟨_, _, hrun, ⟨hlen, .inr ⟨w.heap.size, _, _, rfl, Nat.zero_le _, heap_alloc_new w.drew _, hge, hcm2, ?_, ?_⟩⟩, ⟨⟨rfl, rfl, rfl, by simp, fun q hq => absurd hq (Nat.not_lt_zero _)⟩, fun q hq _ => (World.grownBy_alloc w.drew _ none).block q hq (by simp), .inr ⟨w.heap.size, rfl, Nat.le_refl _⟩⟩, ⟨_, _, rfl⟩⟩
      · generalize grownCap w (n + k) cap E = C at *
        rw [Array.size_append, Array.size_append, List.size_toArray, size_zeroCells, size_zeroCells, hzs, ho.1, ← Nat.add_mul, ← Nat.add_mul, show n + k + (C - (n + k)) = C by omega]
      · simp only [Array.toList_append, List.append_assoc]
        rw [← List.append_assoc, ← hlen]
        exact List.take_left
/-- 'append(v, make([]T, k)...)' at the operation. -/
theorem wpList_app_zeros {ops : Array Oper} {rest : List Oper} {o : Oper} {a : Act} {Q : Exit → Act → World → Prop} (hgd : o.guard = none) (s x : Operand) (w : World) (T tn E : TypeId) (ho : o.op = .call { callee := .builtin .append, args := #[s, x], argTypes := #[T, tn] })
    (i : TypeInfo) (z : Value) (kn : IntKind) (size : Nat) (ht : Try.prog.underlying T = some (.slice E)) (htn : Try.prog.underlying tn = some (.int kn)) (hi : Try.prog.info? E = some i) (hz : i.zero = some z) (hs : i.size = size) (hzs : z.cells.size = size) (hsz : 0 < size) (hby : i.bytes ≤ 1000)
    (h1 : ∀ u ∈ z.cells.toList, u.oneCell' = true) (g n cap : Nat) (xs : List Value) (hown : w.ownsRow 0 E size (.slice (some ⟨g, 0, none⟩) n cap) n xs) (k : Nat) (h0 : 0 < k) (hk : n + k ≤ 100000) (hes : a.eval s = .slice (some ⟨g, 0, none⟩) n cap) (hex : a.eval x = .int .i64 (k : Int))
    (h : ∀ g' cap' w', w'.ownsRow 0 E size (.slice (some ⟨g', 0, none⟩) (n + k) cap') (n + k) (xs ++ (Builtin.zeroCells z.cells k).toList) → App 0 w w' (.slice (some ⟨g, 0, none⟩) n cap) (.slice (some ⟨g', 0, none⟩) (n + k) cap') → wpList Try.prog ops Q rest (a.put o.dst (.slice (some ⟨g', 0, none⟩) (n + k) cap')) w') :
    wpList Try.prog ops Q (o :: rest) a w := by
  obtain ⟨v', w', hr, k1, k2, g', cap', rfl⟩ := run_app_zeros w T tn o.type E i z kn size ht htn hi hz hs hzs hsz hby h1 g n cap xs hown k h0 hk
  exact Lib.wpList_append_run w hgd s x T tn ho _ _ hes hex _ w' hr (h g' cap' w' k1 k2)
end Go.Proofs.Ytmlgpnaikdpifaa

namespace Go.Proofs.Ytmlgpnaikdpifaa
open Go.RowKit

/-- The values, set anew. -/
def setsV (V : List Int) (tr : List Int) : List Int := tr.foldl setV V
def growM (m : Mc) (N : Nat) : Mc := { m with n := N, vs := setsV (List.replicate (N + 1) 0) m.tr }
theorem infoVar : (Try.prog.info? 85).map (fun i => (i.zero, i.size, i.bytes)) = some (some (.agg #[.int .i64 0, .pointer none, nilS, nilS, nilS]), 5, 88) := by kernel_rfl
theorem vals_zero {N : Nat} (h : N ≤ 4000) : Vals (List.replicate (N + 1) (0 : Int)) :=
  ⟨by simp, by simp; omega, by simp [List.getD, List.getElem?_replicate], fun i => .inl (by simp only [List.getD, List.getElem?_replicate]; split <;> rfl)⟩
theorem valL_zeros (N : Nat) (l : Int) : valL (List.replicate (N + 1) (0 : Int)) l = 0 := by
  unfold valL
  split
  · have : (List.replicate (N + 1) (0 : Int)).getD (plc l) 0 = 0 := by simp only [List.getD, List.getElem?_replicate]; split <;> rfl
    rw [this]; split <;> rfl
  · rfl
section
variable {w wr : World} {ρ ρ1 : Nat → Option Rl} {L L1 : Lay} {m : Mc}
/-- So far the first k are set. -/
structure GwV (m : Mc) (N k : Nat) (V : List Int) : Prop where
  vv : Vals V
  vl : V.length = N + 1
  tv : ∀ l, valL V l = 1 ↔ l ∈ m.tr.take k
theorem GwV.start {N : Nat} (h : N ≤ 4000) : GwV m N 0 (List.replicate (N + 1) 0) := ⟨vals_zero h, by simp, fun l => by rw [valL_zeros]; simp⟩
theorem GwV.step (hw : McW m) {N k : Nat} {V : List Int} (h : GwV m N k V) (hN : m.n ≤ N) (hk : k < m.tr.length) : GwV m N (k + 1) (setV V (m.tr.getD k 0)) := by
  have hr := hw.rgt (getD_mem' hk)
  have e : m.tr.take (k + 1) = m.tr.take k ++ [m.tr.getD k 0] := by rw [List.take_succ_eq_append_getElem hk]; simp [List.getD, hk]
  have hn : m.tr.getD k 0 ∉ m.tr.take k := fun hm => by have := (hw.take_iff hk).1 hm; omega
  have hn2 : -(m.tr.getD k 0) ∉ m.tr.take k := fun hm => hw.nb (getD_mem' hk) (List.mem_of_mem_take hm)
  have h0 : valL V (m.tr.getD k 0) ≠ 2 := fun h2 => hn2 ((h.tv _).1 ((val_false h.vv).1 h2))
  refine ⟨h.vv.setV _, by rw [setV_len]; exact h.vl, fun l => ?_⟩
  rw [valL_setV ⟨hr.1, by rw [h.vl]; omega⟩ h0, e, List.mem_append, List.mem_singleton]
  by_cases e1 : l = m.tr.getD k 0
  · simp [e1]
  · rw [if_neg e1]
    by_cases e2 : l = -(m.tr.getD k 0)
    · rw [if_pos e2]
      exact ⟨fun h => absurd h (by decide), fun h => h.elim (fun h => absurd (e2 ▸ h) hn2) (fun h => absurd h e1)⟩
    · rw [if_neg e2, h.tv]
      exact ⟨.inl, fun h => h.resolve_right e1⟩
theorem GwV.done (h : McI m) {N : Nat} {V : List Int} (hN : m.n ≤ N) (hN2 : N ≤ 4000) (hv : GwV m N m.tr.length V) : McI { m with n := N, vs := V } where
  w := ⟨hN2, hv.vl, hv.vv, fun l => by rw [hv.tv, List.take_of_length_le (Nat.le_refl _)], h.w.one, h.w.told, h.w.sorted, h.w.lt, h.w.lvl, h.w.mps, fun i c hc => by
    obtain ⟨h1, h2, h3⟩ := h.w.cls i c hc
    exact ⟨h1, h2, fun l hl => ⟨⟨(h3 l hl).1.1, Nat.le_trans (h3 l hl).1.2 hN⟩, (h3 l hl).2⟩⟩, h.w.rs0, h.w.dec, h.w.rsn⟩
  l := h.l.congr (fun _ => Iff.rfl) rfl rfl rfl rfl (fun _ hl => hl)
  s := fun i hi c hc => h.s i hi c hc
  r := h.r
theorem vcells_grow {L' : Lay} {N : Nat} (hi : ∀ v, m.n < v → L.wv (2 * v) = nilS ∧ L.wv (2 * v + 1) = nilS ∧ L.lw v = nilS ∧ m.lv v = 0 ∧ m.rs v = none) (hN : m.n ≤ N) (e1 : L'.wv = L.wv) (e2 : L'.lw = L.lw) (e3 : L'.cb = L.cb) :
    vcells L m ++ (Builtin.zeroCells (Value.agg #[.int .i64 0, .pointer none, nilS, nilS, nilS]).cells (N - m.n)).toList = vcells L' { m with n := N } := by
  have hz : (Builtin.zeroCells (Value.agg #[.int .i64 0, .pointer none, nilS, nilS, nilS]).cells (N - m.n)).size = (N - m.n) * 5 := size_zeroCells _ _
  apply List.ext_getElem
  · rw [List.length_append, vcells_len, vcells_len, Array.length_toList, hz]
    show _ = (N + 1) * 5
    omega
  · intro i h1 h2
    have h2' : i < (N + 1) * 5 := by rw [vcells_len] at h2; exact h2
    rw [vcells_at]
    have hcell : ∀ x y, vcell L' { m with n := N } x y = vcell L m x y := fun x y => by
      have hp : ∀ o, ptrO L' o = ptrO L o := fun o => by
        cases o with
        | none => rfl
        | some j => show ptrC L' j = ptrC L j; unfold ptrC; rw [e3]
      match y with
      | 0 => rfl
      | 1 => exact hp _
      | 2 => show L'.wv _ = _; rw [e1]; rfl
      | 3 => show L'.wv _ = _; rw [e1]; rfl
      | y + 4 => show L'.lw _ = _; rw [e2]; rfl
    rw [hcell]
    by_cases hi1 : i < (m.n + 1) * 5
    · rw [List.getElem_append_left (by rw [vcells_len]; exact hi1), vcells_at]
    · rw [List.getElem_append_right (by rw [vcells_len]; omega)]
      have hv : m.n < i / 5 := by omega
      obtain ⟨k1, k2, k3, k4, k5⟩ := hi (i / 5) hv
      have hm : (i - (vcells L m).length) % 5 = i % 5 := by rw [vcells_len]; omega
      have hlt : i - (vcells L m).length < (N - m.n) * 5 := by rw [vcells_len]; omega
      have hz' : (Builtin.zeroCells (Value.agg #[.int .i64 0, .pointer none, nilS, nilS, nilS]).cells (N - m.n)).toList.length = (N - m.n) * 5 := by rw [Array.length_toList]; exact hz
      have hzc : (Builtin.zeroCells (Value.agg #[.int .i64 0, .pointer none, nilS, nilS, nilS]).cells (N - m.n)).toList[i - (vcells L m).length]'(by rw [hz']; exact hlt) = (#[Value.int .i64 0, .pointer none, nilS, nilS, nilS] : Array Value)[(i - (vcells L m).length) % 5]! := by
        simp [Builtin.zeroCells, Value.cells]
      rw [hzc, hm]
      have hlt5 : i % 5 < 5 := Nat.mod_lt _ (by omega)
      unfold vcell
      rcases (show i % 5 = 0 ∨ i % 5 = 1 ∨ i % 5 = 2 ∨ i % 5 = 3 ∨ i % 5 = 4 by omega) with e | e | e | e | e
      · rw [e, k4]; rfl
      · rw [e, k5]; rfl
      · rw [e, k1]; rfl
      · rw [e, k2]; rfl
      · rw [e, k3]; rfl
theorem PropC.set1 {n told nx : Nat} (h : PropC w L n told nx) (N g c : Nat) : PropC (w.setCell ⟨L.p, 1, none⟩ (.slice (some ⟨g, 0, none⟩) (N + 1) c)) { L with vb := g, vc := c } N told nx :=
  ⟨(set_off (.inr (by decide))).trans h.c0, set_at h.c1, (set_off (.inr (by decide))).trans h.c2, (set_off (.inr (by decide))).trans h.c3, (set_off (.inr (by decide))).trans h.c4, (set_off (.inr (by decide))).trans h.c5, (set_off (.inr (by decide))).trans h.c6, (set_off (.inr (by decide))).trans h.c7, fun i => set_fr (h.fr i)⟩
theorem PropC.set0 {n told nx : Nat} (h : PropC w L n told nx) (a b : Nat) : PropC (w.setCell ⟨L.p, 0, none⟩ (.pointer (some ⟨a, 0, none⟩))) { L with ap := a, aq := b } n told nx :=
  ⟨set_at h.c0, (set_off (.inr (by decide))).trans h.c1, (set_off (.inr (by decide))).trans h.c2, (set_off (.inr (by decide))).trans h.c3, (set_off (.inr (by decide))).trans h.c4, (set_off (.inr (by decide))).trans h.c5, (set_off (.inr (by decide))).trans h.c6, (set_off (.inr (by decide))).trans h.c7, fun i => set_fr (h.fr i)⟩
/-- The variables' row has grown, and its cell is stored. -/
theorem MA.growV (h : MA w ρ L m) {N g c : Nat} (hN : m.n < N) {w' : World} (hap : App 0 w w' (.slice (some ⟨L.vb, 0, none⟩) (m.n + 1) L.vc) (.slice (some ⟨g, 0, none⟩) (N + 1) c))
    (ho : w'.ownsRow 0 85 5 (.slice (some ⟨g, 0, none⟩) (N + 1) c) (N + 1) (vcells L m ++ (Builtin.zeroCells (Value.agg #[.int .i64 0, .pointer none, nilS, nilS, nilS]).cells (N - m.n)).toList)) :
    ∃ ρ', MA (w'.setCell ⟨L.p, 1, none⟩ (.slice (some ⟨g, 0, none⟩) (N + 1) c)) ρ' { L with vb := g, vc := c } { m with n := N } ∧ Chr ρ w ρ' (w'.setCell ⟨L.p, 1, none⟩ (.slice (some ⟨g, 0, none⟩) (N + 1) c)) ∧ w'.cell? ⟨L.p, 1, none⟩ = some (.slice (some ⟨L.vb, 0, none⟩) (m.n + 1) L.vc) ∧ w'.frozen? ⟨L.p, 1, none⟩ = false ∧ L.p < w'.heap.size := by
  obtain ⟨hP, hC⟩ := h.app (r0 := .v) hap (fun k hk => by
    have : L.vb = k := by simpa [Value.ownBlock] using hk
    rw [← this]; exact h.rv) (fun k hk => by
    have : g = k := by simpa [Value.ownBlock] using hk
    rw [← this]; exact (own_lt ho).2)
  have hp := hP.at' .p (by nofun)
  have hg : rput ρ (.slice (some ⟨g, 0, none⟩) (N + 1) c) .v g = some .v := by show (if (Value.slice (some ⟨g, 0, none⟩) (N + 1) c).ownBlock = some g then _ else _) = _; exact if_pos rfl
  refine ⟨_, ⟨fun b r hb => Nat.lt_of_lt_of_le (hP.lt b r hb) (Only.setCell _ _ _ _).size, fun v hv => hP.hi v (by have : N < v := hv; omega), fun r => ?_⟩, hC.setCell hp.1 _, hp.2.c1, hp.2.fr 1, Nat.lt_of_lt_of_le (h.lt _ _ h.rp) hap.below.size⟩
  have hk : r ≠ .v → r ≠ .p → At (rput ρ (.slice (some ⟨g, 0, none⟩) (N + 1) c) .v) (w'.setCell ⟨L.p, 1, none⟩ (.slice (some ⟨g, 0, none⟩) (N + 1) c)) L m r := fun h0 h1 => hP.rest hp.1 (Only.setCell _ _ _ _) h0 h1
  cases r with
  | p => exact ⟨hp.1, hp.2.set1 N g c⟩
  | v =>
    refine ⟨hg, ?_⟩
    rw [vcells_grow (L' := { L with vb := g, vc := c }) h.hi (Nat.le_of_lt hN) rfl rfl rfl] at ho
    have hne : L.p ≠ g := fun e => by have h1 := hp.1; rw [e, hg] at h1; cases h1
    exact own_out5 ho hne 1 _
  | _ => exact hk (by nofun) (by nofun)
/-- The values are new. -/
theorem MA.newA (h : MA w ρ L m) {w' : World} {a b : Nat} {V : List Int} (ha : Asg w' w.heap.size (.pointer (some ⟨a, 0, none⟩)) a b V) (hb : Below w.heap.size w w') :
    ∃ ρ', MA (w'.setCell ⟨L.p, 0, none⟩ (.pointer (some ⟨a, 0, none⟩))) ρ' { L with ap := a, aq := b } { m with vs := V } ∧ Chr ρ w ρ' (w'.setCell ⟨L.p, 0, none⟩ (.pointer (some ⟨a, 0, none⟩))) ∧ w'.cell? ⟨L.p, 0, none⟩ = some (.pointer (some ⟨L.ap, 0, none⟩)) ∧ w'.frozen? ⟨L.p, 0, none⟩ = false ∧ L.p < w'.heap.size := by
  have h1 := h.below hb
  have hpl := h.lt _ _ h.rp
  obtain ⟨ρ', hρ⟩ : ∃ ρ' : Nat → Option Rl, ρ' = fun q => if q = a ∨ q = b then some .a else ρ q := ⟨_, rfl⟩
  have hold : ∀ q r, ρ q = some r → ρ' q = some r := fun q r hq => by
    rw [hρ]
    show (if q = a ∨ q = b then some Rl.a else ρ q) = _
    rw [if_neg]
    · exact hq
    · have := h.lt q r hq
      have := ha.bp
      have := ha.bq
      omega
  have hpa : L.p ≠ a := fun e => by have := ha.bp; omega
  have hpb : L.p ≠ b := fun e => by have := ha.bq; omega
  have hra : ρ' a = some .a := by rw [hρ]; simp
  have hrb : ρ' b = some .a := by rw [hρ]; simp
  have hp := hold _ _ h.rp
  refine ⟨ρ', ⟨fun q r hq => ?_, h.hi, fun r => ?_⟩, ⟨hb.os, hb.tape, hb.output, Nat.le_trans hb.size (Only.setCell _ _ _ _).size, fun i hi hn => ?_, fun i hi hn => ?_⟩, h1.pc.c0, h1.pc.fr 0, Nat.lt_of_lt_of_le hpl hb.size⟩
  · rw [hρ] at hq
    have hq' : (if q = a ∨ q = b then some Rl.a else ρ q) = some r := hq
    have hsz : (w'.setCell ⟨L.p, 0, none⟩ (.pointer (some ⟨a, 0, none⟩))).heap.size = w'.heap.size := by simp [World.setCell]
    rw [hsz]
    split at hq'
    · rename_i e
      rcases e with rfl | rfl
      · exact ha.sp
      · exact ha.sq
    · exact Nat.lt_of_lt_of_le (h.lt q r hq') hb.size
  · have hk : r ≠ .p → r ≠ .a → At ρ' (w'.setCell ⟨L.p, 0, none⟩ (.pointer (some ⟨a, 0, none⟩))) L m r := fun h0 h2 => (h1.rest h1.rp (Only.setCell _ _ _ _) h0).keep (fun q hq => Nat.lt_of_lt_of_le (h1.lt q r hq) (Only.setCell _ _ _ _).size) (Nat.le_refl _) fun q hq => ⟨hold q r hq, rfl⟩
    cases r with
    | p => exact ⟨hp, h1.pc.set0 a b⟩
    | a => exact ⟨hra, hrb, (ha.base (Nat.zero_le _)).other (Only.setCell _ _ _ _) hpa.symm hpb.symm⟩
    | _ => exact hk (by nofun) (by nofun)
  · have : L.p ≠ i := fun e => by subst e; rw [h.rp] at hn; cases hn
    exact (Below.heap_setCell _ _ _ _ (fun e => this e.symm)).trans (hb.block i hi)
  · rw [hρ]
    show (if i = a ∨ i = b then some Rl.a else ρ i) = none
    rw [if_neg]
    · exact hn
    · have := ha.bp
      have := ha.bq
      omega
end
end Go.Proofs.Ytmlgpnaikdpifaa

namespace Go.Proofs.Ytmlgpnaikdpifaa
open Go.RowKit

def gN (k : Int) : Nat := (min (max k 0) 4000).toNat
def GrowR (w : World) (ρ : Nat → Option Rl) (L : Lay) (m : Mc) (k : Int) (w' : World) : Prop :=
  (gN k ≤ m.n ∧ w' = w) ∨ (m.n < gN k ∧ ∃ ρ' L' V, Chr ρ w ρ' w' ∧ L'.p = L.p ∧ MA w' ρ' L' { m with n := gN k, vs := V } ∧ McI { m with n := gN k, vs := V })
/-- What Grow holds to, of the prop in memory, while it sets. -/
def GrI (w : World) (ρ : Nat → Option Rl) (L : Lay) (m : Mc) (N j : Nat) (wr : World) (ρ1 : Nat → Option Rl) (L1 : Lay) : Prop :=
  ∃ V, MA wr ρ1 L1 { m with n := N, vs := V } ∧ Chr ρ w ρ1 wr ∧ L1.p = L.p ∧ L1.trv = L.trv ∧ GwV m N j V
theorem zero1 : ∀ u ∈ (Value.agg #[.int .i64 0, .pointer none, nilS, nilS, nilS]).cells.toList, u.oneCell' = true := by
  intro u hu
  simp only [Value.cells, List.mem_cons, List.not_mem_nil, or_false] at hu
  rcases hu with rfl | rfl | rfl | rfl | rfl <;> rfl
section
variable {w : World} {ρ : Nat → Option Rl} {L : Lay} {m : Mc}

set_option maxRecDepth 8000 in
set_option maxHeartbeats 16000000 in
theorem mgrow_any (h : MA w ρ L m) (hI : McI m) (k : Int) (h1 : -9223372036854775808 ≤ k) (h2 : k ≤ 9223372036854775807) :
    Calls Try.prog 41 #[ptrP L, .int .i64 k] w fun e w' => e = .returned (.tuple #[]) ∧ GrowR w ρ L m k w' := by
  have hn := hI.w.n
  unfold ptrP at *
  obtain ⟨N, hN, hNk⟩ : ∃ N : Nat, gN k = N ∧ min (max k 0) 4000 = (N : Int) := ⟨gN k, rfl, by unfold gN; omega⟩
  have hN2 : N ≤ 4000 := by omega
  obtain ⟨D, hD⟩ : ∃ D : Int, D = (N : Int) - (m.n : Int) := ⟨_, rfl⟩
  have hcs : k < 0 ∧ (N : Int) = 0 ∨ k = 0 ∧ (N : Int) = 0 ∨ (0 < k ∧ k < 4000 ∧ k = (N : Int)) ∨ k = 4000 ∧ (N : Int) = 4000 ∨ 4000 < k ∧ (N : Int) = 4000 := by omega
  have htl : m.tr.length ≤ 4000 := Nat.le_trans hI.w.tr_len hn
  obtain ⟨ta, tc, hts, ht1, ht2⟩ := ro_shape (h.at' .tr)
  rw [List.length_map] at hts ht1
  unfold maxLen at ht2
  have c1 := h.pc.c1
  have c2 := h.pc.c2
  rw [hts] at c2
  obtain ⟨ivar, hiv⟩ : ∃ i, Try.prog.info? 85 = some i ∧ i.zero = some (.agg #[.int .i64 0, .pointer none, nilS, nilS, nilS]) ∧ i.size = 5 ∧ i.bytes ≤ 1000 := by
    have := infoVar
    cases hq : Try.prog.info? 85 with
    | none => rw [hq] at this; cases this
    | some i =>
      rw [hq] at this
      injection this with this
      injection this with a1 a2
      injection a2 with a2 a3
      exact ⟨i, rfl, a1, a2, by rw [a3]; decide⟩
  have HIV := Lib.hid hiv
  clear hiv
  have HM := Lib.hid h
  have HI := Lib.hid hI
  have HTS := Lib.hid hts
  have HN := Lib.hid hN
  have HNV := Lib.hid (show min (max k 0) 4000 + 1 = ((N + 1 : Nat) : Int) by omega)
  have HOWN := Lib.hid (h.at' .v).2
  clear h hI hN hts hNk
  generalize hTL : m.tr.length = TL at *
  have HTL := Lib.hid hTL
  clear hTL
  generalize hMN : m.n = mn at *
  have HMN := Lib.hid hMN
  clear hMN
  have HD := Lib.hid hD
  clear hD
  go_enter Try.func41, Try.ntmps41
  go_upto_region 0 with fail
  go_cut [4] (fun u W => u = .int .i64 D ∧ W = w)
  case first =>
    rcases hcs with ⟨e, e2⟩ | ⟨e, e2⟩ | ⟨e, e2, e3⟩ | ⟨e, e2⟩ | ⟨e, e2⟩
    · have e3 : ¬ (0 : Int) < k := by omega
      go_wp2_with fail
      go_meet
      exact ⟨congrArg (Value.int .i64) (by have := HD.out; omega), rfl⟩
    · subst e
      go_wp2_with fail
      go_meet
      exact ⟨congrArg (Value.int .i64) (by have := HD.out; omega), rfl⟩
    · have e4 : ¬ k < 0 := by omega
      have e5 : ¬ 4000 < k := by omega
      have HDK : Hid (D = k - (mn : Int)) := by unfold Hid; rw [HD.out, e3]
      clear e3
      go_wp2_with fail
      go_meet
      exact ⟨congrArg (Value.int .i64) (by have := HDK.out; omega), rfl⟩
    · subst e
      go_wp2_with fail
      go_meet
      exact ⟨congrArg (Value.int .i64) (by have := HD.out; omega), rfl⟩
    · have e4 : ¬ k < 0 := by omega
      have e5 : ¬ k < 4000 := by omega
      have e6 : 0 < k := by omega
      go_wp2_with fail
      go_meet
      exact ⟨congrArg (Value.int .i64) (by have := HD.out; omega), rfl⟩
  case rest =>
    obtain ⟨rfl, rfl⟩ := hcut
    clear hcs
    by_cases hd : D ≤ 0
    · have HE : Hid (GrowR wc ρ L m k wc) := .inl ⟨by rw [HN.out, HMN.out]; have := HD.out; omega, rfl⟩
      go_wp2_with fail
      refine bodyPost_ret (results_none rfl _ _ _) rfl ?_
      exact ⟨rfl, HE.out⟩
    · obtain ⟨d, rfl⟩ : ∃ d : Nat, D = (d : Int) := ⟨D.toNat, by omega⟩
      have hd5 : mn + 1 + d ≤ 100000 := by have := HD.out; omega
      have hd0 : 0 < d := by omega
      have hD := HD.out
      have hdN : mn + 1 + d = N + 1 := by omega
      have hdd : Hid (N - mn = d) := by unfold Hid; omega
      have HLT : Hid (mn < N) := by unfold Hid; omega
      have HNE := Lib.hid (fun (W : World) => new_any k W h1 h2)
      clear hD
      go_upto_region 3 with (at_builtin; refine wpList_app_zeros rfl _ _ _ 67 3 85 rfl _ (.agg #[.int .i64 0, .pointer none, nilS, nilS, nilS]) .i64 5 Try.underlying67 Try.underlying3 HIV.out.1 HIV.out.2.1 HIV.out.2.2.1 rfl (by decide) HIV.out.2.2.2 zero1 L.vb (mn + 1) L.vc _ HOWN.out d hd0 hd5 rfl rfl ?_; intro g5 k5 w5 hown5 hap5; rw [hdN] at hown5 hap5; rw [← hdd.out, ← HMN.out] at hown5; rw [← HMN.out] at hap5; obtain ⟨ρ5, hM5, hC5, k1, f1, l1⟩ := HM.out.growV (by rw [HMN.out]; exact HLT.out) hap5 hown5; rw [HMN.out] at k1; have HM5 := Lib.hid hM5; have HC5 := Lib.hid hC5; clear hM5 hC5 hown5 hap5)
      go_cut [30] (fun _ W => ∃ ρ1 L1, GrI wc ρ L m N 0 W ρ1 L1)
      case first =>
        go_wp2_with fail
        refine (HNE.out _).mono ?_
        rintro e w7 ⟨pp, qq, rfl, ha7, hb7⟩
        rw [newV_of (m := N + 1) HNV.out] at ha7
        obtain ⟨ρ7, hM7, hC7, k0, f0, l0⟩ := HM5.out.newA ha7 hb7
        have HM7 := Lib.hid hM7
        have HC7 := Lib.hid hC7
        clear hM7 hC7 ha7 hb7 HNE
        go_wp2_with fail
        go_meet
        exact ⟨_, _, _, HM7.out, HC5.out.trans HC7.out, rfl, rfl, GwV.start hN2⟩
      case rest =>
        obtain ⟨ρ1, L1, V, hM, hC, hp1, ht1', hV⟩ := hcut
        rename World => wr
        have c2' := hM.pc.c2
        rw [hp1, ht1', HTS.out] at c2'
        have HB0 : Hid (∃ ρ1 L1, GrI wc ρ L m N 0 wr ρ1 L1) := ⟨ρ1, L1, V, hM, hC, hp1, ht1', hV⟩
        clear hM hC hp1 ht1' hV c1 c2
        go_wp2_with fail
        go_loopw [6, 38] (fun _ u38 W => ∃ (j : Nat) (ρ1 : Nat → Option Rl) (L1 : Lay), j ≤ TL ∧ u38 = .int .i64 (j : Int) ∧ GrI wc ρ L m N j W ρ1 L1) (fun _ u38 _ => TL - (intOf u38).toNat)
        case atStart =>
          obtain ⟨ρ1, L1, h⟩ := HB0.out
          exact ⟨0, ρ1, L1, by omega, rfl, h⟩
        case round =>
          obtain ⟨j, ρ1, L1, hj, rfl, V, hM, hC, hp1, htv, hV⟩ := hrel
          have HM1 := Lib.hid hM
          have HC1 := Lib.hid hC
          have HV1 := Lib.hid hV
          have HP1 := Lib.hid hp1
          have HTV1 := Lib.hid htv
          by_cases hjl : j < TL
          · have hrow := (hM.at' .tr).1
            rw [List.length_map, htv, HTS.out] at hrow
            have hrow : wr.ownsRow 0 3 1 (.slice ta TL tc) TL (m.tr.map (Value.int .i64)) := by rw [← HTL.out]; rw [← HTL.out] at hrow; exact hrow
            obtain ⟨gt, ct, e⟩ := own_at hrow (by omega)
            injection e with e1 e2 e3
            subst e1; subst e3
            clear e2
            have x6 := own_cell hrow (i := j) (u := .int .i64 (m.tr.getD j 0)) (by rw [List.getElem?_map]; simp [List.getD, show j < m.tr.length by rw [HTL.out]; exact hjl])
            have hpl := (HI.out.w.rgt (getD_mem' (show j < m.tr.length by rw [HTL.out]; exact hjl))).2
            rw [HMN.out] at hpl
            obtain ⟨hl1, hl2⟩ := lit_bd hpl hn
            have hst := hV.step HI.out.w (by rw [HMN.out]; exact Nat.le_of_lt HLT.out) (by rw [HTL.out]; exact hjl)
            obtain ⟨y, hy⟩ : ∃ y, m.tr.getD j 0 = y := ⟨_, rfl⟩
            rw [hy] at x6 hpl hl1 hl2 hst
            have HST := Lib.hid hst
            have HS := Lib.hid (set_any hM.asg y (by omega) (by omega))
            have c0 := hM.pc.c0
            rw [hp1] at c0
            clear hM hC hV hp1 htv hst hy hrow hpl
            go_wp2_with fail
            refine HS.out.mono ?_
            rintro e w8 ⟨rfl, ha8, ho8⟩
            have HM8 := Lib.hid (HM1.out.asgSet ho8 ha8)
            have HC8 := Lib.hid (HC1.out.trans (Chr.of_only (HM1.out.at' .a).2.1 ho8))
            clear ha8 ho8 c0 x6
            go_wp2_with fail
            go_roundw
            case rel => exact ⟨j + 1, ρ1, L1, by omega, by go_num, _, HM8.out, HC8.out, HP1.out, HTV1.out, HST.out⟩
            case measure => go_light; simp [intOf]; omega
          · have hje : j = TL := by omega
            have HE : Hid (GrowR wc ρ L m k wr) := by
              refine .inr ⟨by rw [HMN.out, HN.out]; exact HLT.out, ρ1, L1, V, hC, hp1, ?_, ?_⟩
              · rw [HN.out]; exact hM
              · rw [HN.out]
                refine GwV.done HI.out ?_ hN2 ?_
                · rw [HMN.out]; exact Nat.le_of_lt HLT.out
                · rw [HTL.out, ← hje]; exact hV
            clear hM hC hV hp1 htv
            go_wp2_with fail
            (try simp only [Exit.inBlock, Exit.then])
            refine bodyPost_end (results_none rfl _ _ _) rfl ?_
            exact ⟨rfl, HE.out⟩

end
end Go.Proofs.Ytmlgpnaikdpifaa

namespace Go.Proofs.Ytmlgpnaikdpifaa
open Go.RowKit

/-- Nothing is known, and there is no clause. -/
def mc0 : Mc := ⟨0, [0], [], 0, [], 0, fun _ => false, fun _ => none, fun _ => 0, fun _ => none, fun _ => [], fun _ => [], []⟩
theorem mc0_I : McI mc0 where
  w := ⟨by decide, rfl, by have := vals_zero (N := 0) (by omega); exact this, fun l => by rw [show mc0.vs = List.replicate (0 + 1) 0 from rfl, valL_zeros]; exact ⟨nofun, nofun⟩, .nil, Nat.le_refl _, .nil, nofun, fun i hi => absurd hi (Nat.not_lt_zero _), fun _ => rfl, nofun, fun _ _ => rfl, nofun, fun i hi => absurd hi (Nat.not_lt_zero _)⟩
  l := ⟨.nil, nofun, fun _ => .nil, nofun, fun _ => .nil, nofun, nofun⟩
  s := fun i _ c hc => by cases hc
  r := nofun

theorem alloc_sz (w : World) (o : Obj) : (w.alloc o).heap.size = w.heap.size + 1 := Array.size_push _
def zv5 : Obj := .cells #[.int .i64 0, .pointer none, .slice none 0 0, .slice none 0 0, .slice none 0 0] 85
/-- What New has made so far, in any order. -/
structure Acc (w W : World) (a : Option (Nat × Nat)) (v m : Option Nat) : Prop where
  b : Below w.heap.size w W
  v' : ∀ q, v = some q → w.heap.size ≤ q ∧ q < W.heap.size ∧ W.heap[q]? = some zv5
  m' : ∀ q, m = some q → w.heap.size ≤ q ∧ q < W.heap.size ∧ W.heap[q]? = some (.map #[] 0)
  a' : ∀ x y, a = some (x, y) → w.heap.size ≤ x ∧ w.heap.size ≤ y ∧ Asg W 0 (.pointer (some ⟨x, 0, none⟩)) x y [0]
  d1 : ∀ q r, v = some q → m = some r → q ≠ r
  d2 : ∀ x y q, a = some (x, y) → v = some q → x ≠ q ∧ y ≠ q
  d3 : ∀ x y q, a = some (x, y) → m = some q → x ≠ q ∧ y ≠ q
section
variable {w W W' : World} {a : Option (Nat × Nat)} {v m : Option Nat}
theorem Acc.start (w : World) : Acc w w.drew none none none := ⟨(Below.refl _ _).drew, nofun, nofun, nofun, nofun, nofun, nofun⟩
theorem Acc.below (h : Acc w W a v m) (hb : Below W.heap.size W W') : Acc w W' a v m where
  b := h.b.trans (hb.mono h.b.size)
  v' := fun q e => by obtain ⟨h1, h2, h3⟩ := h.v' q e; exact ⟨h1, Nat.lt_of_lt_of_le h2 hb.size, (hb.block q h2).trans h3⟩
  m' := fun q e => by obtain ⟨h1, h2, h3⟩ := h.m' q e; exact ⟨h1, Nat.lt_of_lt_of_le h2 hb.size, (hb.block q h2).trans h3⟩
  a' := fun x y e => by obtain ⟨h1, h2, h3⟩ := h.a' x y e; exact ⟨h1, h2, h3.keepB hb.size (hb.block x h3.sp) (hb.block y h3.sq)⟩
  d1 := h.d1
  d2 := h.d2
  d3 := h.d3
theorem Acc.stV (h : Acc w W a none m) : Acc w (W.alloc zv5) a (some W.heap.size) m := by
  have k := h.below (W' := W.alloc zv5) ((Below.refl _ _).alloc (Nat.le_refl _) _)
  refine ⟨k.b, fun q e => ?_, k.m', k.a', fun q r e1 e2 => ?_, fun x y q e1 e2 => ?_, k.d3⟩
  · injection e with e
    subst e
    exact ⟨h.b.size, by show _ < (W.heap.push _).size; rw [Array.size_push]; omega, heap_alloc_new W _⟩
  · injection e1 with e1
    have := (h.m' r e2).2.1
    omega
  · injection e2 with e2
    have := (h.a' x y e1).2.2
    have h1 := this.sp
    have h2 := this.sq
    omega
theorem Acc.stM (h : Acc w W a v none) : Acc w (W.alloc (.map #[] 0)) a v (some W.heap.size) := by
  have k := h.below (W' := W.alloc (.map #[] 0)) ((Below.refl _ _).alloc (Nat.le_refl _) _)
  refine ⟨k.b, k.v', fun q e => ?_, k.a', fun q r e1 e2 => ?_, k.d2, fun x y q e1 e2 => ?_⟩
  · injection e with e
    subst e
    exact ⟨h.b.size, by show _ < (W.heap.push _).size; rw [Array.size_push]; omega, heap_alloc_new W _⟩
  · injection e2 with e2
    have := (h.v' q e1).2.1
    omega
  · injection e2 with e2
    have := (h.a' x y e1).2.2
    have h1 := this.sp
    have h2 := this.sq
    omega
theorem Acc.stA (h : Acc w W none v m) {x y : Nat} (ha : Asg W' W.heap.size (.pointer (some ⟨x, 0, none⟩)) x y (newV 0)) (hb : Below W.heap.size W W') : Acc w W' (some (x, y)) v m := by
  have k := h.below hb
  have hx := ha.bp
  have hy := ha.bq
  rw [newV_of (m := 1) (by decide)] at ha
  refine ⟨k.b, k.v', k.m', fun x' y' e => ?_, k.d1, fun x' y' q e1 e2 => ?_, fun x' y' q e1 e2 => ?_⟩
  · injection e with e
    injection e with e1 e2
    subst e1; subst e2
    exact ⟨Nat.le_trans h.b.size hx, Nat.le_trans h.b.size hy, ha.base (Nat.zero_le _)⟩
  · injection e1 with e1
    injection e1 with e1 e3
    have := (h.v' q e2).2.1
    omega
  · injection e1 with e1
    injection e1 with e1 e3
    have := (h.m' q e2).2.1
    omega
def rho0 (p x y q r : Nat) : Nat → Option Rl := fun b => if b = p then some .p else if b = x ∨ b = y then some .a else if b = q then some .v else if b = r then some .mp else none
/-- The prop that New makes. -/
def lay0 (p x y q r : Nat) : Lay := ⟨p, x, y, q, 1, r, nilS, nilS, nilS, fun _ => nilS, fun _ => nilS, fun _ => 0, fun _ => nilS⟩
theorem rol_nil {ρ : Nat → Option Rl} (r : Rl) (e : TypeId) : RolA ρ W r e nilS [] := ⟨World.ownsRow_nil _ _ _ _, nofun⟩
theorem Acc.ma {x y q r : Nat} (h : Acc w W (some (x, y)) (some q) (some r)) :
    ∃ ρ, MA (W.alloc (.cells #[.pointer (some ⟨x, 0, none⟩), .slice (some ⟨q, 0, none⟩) 1 1, nilS, .int .i64 0, nilS, .map (some r), .int .i64 0, nilS] 71)) ρ (lay0 W.heap.size x y q r) mc0 ∧ (∀ b k, ρ b = some k → w.heap.size ≤ b) := by
  obtain ⟨P, hP⟩ : ∃ P : Obj, P = .cells #[.pointer (some ⟨x, 0, none⟩), .slice (some ⟨q, 0, none⟩) 1 1, nilS, .int .i64 0, nilS, .map (some r), .int .i64 0, nilS] 71 := ⟨_, rfl⟩
  rw [← hP]
  have k := h.below (W' := W.alloc P) ((Below.refl _ _).alloc (Nat.le_refl _) _)
  have hp : (W.alloc P).heap[W.heap.size]? = some P := heap_alloc_new W _
  obtain ⟨v1, v2, v3⟩ := h.v' q rfl
  obtain ⟨m1, m2, m3⟩ := h.m' r rfl
  obtain ⟨a1, a2, a3⟩ := h.a' x y rfl
  have v4 := (k.v' q rfl).2.2
  have m4 := (k.m' r rfl).2.2
  have a4 := (k.a' x y rfl).2.2
  have d1 := h.d1 q r rfl rfl
  have d2 := h.d2 x y q rfl rfl
  have d3 := h.d3 x y r rfl rfl
  have hx := a3.sp
  have hy := a3.sq
  have hs := h.b.size
  have hsz : (W.alloc P).heap.size = W.heap.size + 1 := Array.size_push _
  refine ⟨rho0 W.heap.size x y q r, ⟨fun b k hb => ?_, fun v _ => ⟨rfl, rfl, rfl, rfl, rfl⟩, fun k => ?_⟩, fun b k hb => ?_⟩
  · rw [hsz]
    unfold rho0 at hb
    split at hb
    · omega
    · split at hb
      · rename_i e; rcases e with rfl | rfl <;> omega
      · split at hb
        · omega
        · split at hb
          · omega
          · cases hb
  · cases k with
    | p =>
      refine ⟨if_pos rfl, ?_⟩
      subst hP
      exact ⟨(cell_of_row _ _ 0 _ _ _ hp).trans rfl, (cell_of_row _ _ 1 _ _ _ hp).trans rfl, (cell_of_row _ _ 2 _ _ _ hp).trans rfl, (cell_of_row _ _ 3 _ _ _ hp).trans rfl, (cell_of_row _ _ 4 _ _ _ hp).trans rfl, (cell_of_row _ _ 5 _ _ _ hp).trans rfl, (cell_of_row _ _ 6 _ _ _ hp).trans rfl, (cell_of_row _ _ 7 _ _ _ hp).trans rfl, fun i => by
        show World.frozen? _ _ = _
        unfold World.frozen?
        rw [show (lay0 W.heap.size x y q r).p = W.heap.size from rfl, hp]
        simp⟩
    | a =>
      refine ⟨?_, ?_, a4⟩
      · show rho0 W.heap.size x y q r x = _; unfold rho0
        rw [if_neg (by omega), if_pos (.inl rfl)]
      · show rho0 W.heap.size x y q r y = _; unfold rho0
        rw [if_neg (by omega), if_pos (.inr rfl)]
    | v =>
      refine ⟨?_, rfl, .inr ⟨q, 1, _, rfl, Nat.zero_le _, v4, Nat.le_refl _, by decide, rfl, rfl⟩⟩
      show rho0 W.heap.size x y q r q = _; unfold rho0
      rw [if_neg (by omega), if_neg (by omega), if_pos rfl]
    | mp =>
      refine ⟨?_, 0, .map [], ⟨#[], 0, m4, ⟨by simp, ⟨by simp, by simp, by simp⟩, by simp⟩, Nat.le_refl _, rfl⟩, Nat.le_refl _, fun i _ _ => ?_⟩
      · show rho0 W.heap.size x y q r r = _; unfold rho0
        rw [if_neg (by omega), if_neg (by omega), if_neg (by omega), if_pos rfl]
      · show _ = (if 0 ≤ i ∧ false = true then _ else _)
        rw [if_neg (by simp)]
        rfl
    | tr => exact rol_nil _ _
    | st => exact rol_nil _ _
    | td => exact rol_nil _ _
    | w j => exact rol_nil _ _
    | l j => exact rol_nil _ _
    | c i => exact fun c hc => by cases hc
    | d i => exact fun c hc => by cases hc
  · unfold rho0 at hb
    split at hb
    · omega
    · split at hb
      · rename_i e; rcases e with rfl | rfl <;> omega
      · split at hb
        · omega
        · split at hb
          · omega
          · cases hb
end
def NewR (w : World) (k : Int) (e : Ending) (w' : World) : Prop := ∃ ρ L V, e = .returned (ptrP L) ∧ MA w' ρ L { mc0 with n := gN k, vs := V } ∧ McI { mc0 with n := gN k, vs := V } ∧ Below w.heap.size w w' ∧ ∀ b r, ρ b = some r → w.heap.size ≤ b

set_option maxRecDepth 8000 in
set_option maxHeartbeats 16000000 in
theorem mnew_any (w : World) (k : Int) (h1 : -9223372036854775808 ≤ k) (h2 : k ≤ 9223372036854775807) :
    Calls Try.prog 10 #[.int .i64 k] w (NewR w k) := by
  have HNE := Lib.hid (fun (W : World) => new_any 0 W (by omega) (by omega))
  have hmk : ∀ w : World, (Instr.makeSlice 67 (.int .i64 1) (.int .i64 1)).run Try.prog w = .ok (.slice (some ⟨w.heap.size, 0, none⟩) 1 1) (w.alloc (.cells #[.int .i64 0, .pointer none, .slice none 0 0, .slice none 0 0, .slice none 0 0] 85)) := fun _ => by kernel_rfl
  have hmm := @run_makeMap Try.prog
  go_enter Try.func10, Try.ntmps10
  go_upto_region 1 with fail
  go_cut [3] (fun u W => ∃ x y q r W0, Acc w W0 (some (x, y)) (some q) (some r) ∧ W = W0.alloc (.cells #[.pointer (some ⟨x, 0, none⟩), .slice (some ⟨q, 0, none⟩) 1 1, nilS, .int .i64 0, nilS, .map (some r), .int .i64 0, nilS] 71) ∧ u = .pointer (some ⟨W0.heap.size, 0, none⟩))
  case first =>
    go_region_with ((refine (HNE.out _).mono ?_; rintro e w7 ⟨pp, qq, rfl, ha7, hb7⟩; have HA7 := Lib.hid ha7; have HB7 := Lib.hid hb7; clear ha7 hb7))
    all_goals (go_wp2_with fail; go_meet)
    all_goals first
      | exact ⟨_, _, _, _, _, ((Acc.start w).stA HA7.out HB7.out).stV.stM, by first | rfl | (simp only [alloc_sz]; rfl), by first | rfl | (simp only [alloc_sz]; rfl) | simp only [alloc_sz]⟩
      | exact ⟨_, _, _, _, _, ((Acc.start w).stA HA7.out HB7.out).stM.stV, by first | rfl | (simp only [alloc_sz]; rfl), by first | rfl | (simp only [alloc_sz]; rfl) | simp only [alloc_sz]⟩
      | exact ⟨_, _, _, _, _, ((Acc.start w).stV.stA HA7.out HB7.out).stM, by first | rfl | (simp only [alloc_sz]; rfl), by first | rfl | (simp only [alloc_sz]; rfl) | simp only [alloc_sz]⟩
      | exact ⟨_, _, _, _, _, (Acc.start w).stV.stM.stA HA7.out HB7.out, by first | rfl | (simp only [alloc_sz]; rfl), by first | rfl | (simp only [alloc_sz]; rfl) | simp only [alloc_sz]⟩
      | exact ⟨_, _, _, _, _, ((Acc.start w).stM.stA HA7.out HB7.out).stV, by first | rfl | (simp only [alloc_sz]; rfl), by first | rfl | (simp only [alloc_sz]; rfl) | simp only [alloc_sz]⟩
      | exact ⟨_, _, _, _, _, (Acc.start w).stM.stV.stA HA7.out HB7.out, by first | rfl | (simp only [alloc_sz]; rfl), by first | rfl | (simp only [alloc_sz]; rfl) | simp only [alloc_sz]⟩
  case rest =>
    obtain ⟨x, y, q, r, W0, hA, rfl, rfl⟩ := hcut
    obtain ⟨ρ0, hM, hρ⟩ := hA.ma
    have HG := Lib.hid (mgrow_any hM mc0_I k h1 h2)
    have HA := Lib.hid hA
    have HM := Lib.hid hM
    have HR := Lib.hid hρ
    clear hM hA hρ hmk hmm HNE
    unfold ptrP at HG
    go_wp2_with fail
    refine HG.out.mono ?_
    rintro e w8 ⟨rfl, hG⟩
    have HG8 := Lib.hid hG
    clear hG
    go_wp2_with fail
    go_ret
    obtain ⟨P, hP⟩ : ∃ P : Obj, P = .cells #[.pointer (some ⟨x, 0, none⟩), .slice (some ⟨q, 0, none⟩) 1 1, nilS, .int .i64 0, nilS, .map (some r), .int .i64 0, nilS] 71 := ⟨_, rfl⟩
    have hG := HG8.out
    have hM := HM.out
    rw [← hP] at hG hM
    have hb := HA.out.b.alloc HA.out.b.size P
    rcases hG with ⟨e, rfl⟩ | ⟨hlt, ρ1, L1, V, hC, hL, hM1, hI1⟩
    · have e0 : gN k = 0 := Nat.le_zero.1 e
      exact ⟨ρ0, _, [0], rfl, by rw [e0]; exact hM, by rw [e0]; exact mc0_I, hb, HR.out⟩
    · have hno : ∀ i, i < w.heap.size → ρ0 i = none := fun i hi => by
        cases hq : ρ0 i with
        | none => rfl
        | some r' => have := HR.out i r' hq; omega
      refine ⟨ρ1, L1, V, ?_, hM1, hI1, ⟨hC.os.trans hb.os, hC.tape.trans hb.tape, hC.output.trans hb.output, Nat.le_trans hb.size hC.size, fun i hi => (hC.block i (Nat.lt_of_lt_of_le hi hb.size) (hno i hi)).trans (hb.block i hi)⟩, fun b r' hr => ?_⟩
      · unfold ptrP
        rw [hL]
        rfl
      · rcases Nat.lt_or_ge b w.heap.size with h' | h'
        · rw [hC.old b (Nat.lt_of_lt_of_le h' hb.size) (hno b h')] at hr
          cases hr
        · exact h'

end Go.Proofs.Ytmlgpnaikdpifaa
