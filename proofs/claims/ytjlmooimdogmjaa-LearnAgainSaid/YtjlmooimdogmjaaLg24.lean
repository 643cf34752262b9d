/- The contract of prop's Grow, of the state in memory. Conditions: 64-bit ints; the prop lies in memory as 'MA' says, at rest. · The contract of prop's Grow, of the state in memory. Conditions: 64-bit ints; the prop lies in memory as 'MA' says, at rest. -/
import Derived.Test.YtjlmooimdogmjaaLg22
import Derived.Test.YtjlmooimdogmjaaLg23
set_option linter.unusedVariables false
set_option linter.unusedSimpArgs false
namespace Go.Proofs.Ytjlmooimdogmjaa
open Go.RowKit

/-- The values, set anew. -/
def setsV (V : List Int) (tr : List Int) : List Int := tr.foldl setV V
def growM (m : Mc) (N : Nat) : Mc := { m with n := N, vs := setsV (List.replicate (N + 1) 0) m.tr }
theorem infoVar : (Try.prog.info? 71).map (fun i => (i.zero, i.size, i.bytes)) = some (some (.agg #[.int .i64 0, .pointer none, nilS, nilS, nilS]), 5, 88) := by kernel_rfl
theorem vals_zero {N : Nat} (h : N ≤ 4000) : Vals (List.replicate (N + 1) (0 : Int)) :=
  ⟨by simp, by simp; omega, by simp [List.getD, List.getElem?_replicate], fun i => .inl (by simp only [List.getD, List.getElem?_replicate]; split <;> rfl)⟩
theorem valL_zeros (N : Nat) (l : Int) : valL (List.replicate (N + 1) (0 : Int)) l = 0 := by
  unfold valL
  split
  · have : (List.replicate (N + 1) (0 : Int)).getD (plc l) 0 = 0 := by simp only [List.getD, List.getElem?_replicate]; split <;> rfl
    rw [this]; split <;> rfl
  · rfl
section
variable {w wr : World} {ρ ρ1 : Nat → Option Rl} {L L1 : Lay} {m : Mc}
/-- So far the first k are set. -/
structure GwV (m : Mc) (N k : Nat) (V : List Int) : Prop where
  vv : Vals V
  vl : V.length = N + 1
  tv : ∀ l, valL V l = 1 ↔ l ∈ m.tr.take k
theorem GwV.start {N : Nat} (h : N ≤ 4000) : GwV m N 0 (List.replicate (N + 1) 0) := ⟨vals_zero h, by simp, fun l => by rw [valL_zeros]; simp⟩
theorem GwV.step (hw : McW m) {N k : Nat} {V : List Int} (h : GwV m N k V) (hN : m.n ≤ N) (hk : k < m.tr.length) : GwV m N (k + 1) (setV V (m.tr.getD k 0)) := by
  have hr := hw.rgt (getD_mem' hk)
  have e : m.tr.take (k + 1) = m.tr.take k ++ [m.tr.getD k 0] := by rw [List.take_succ_eq_append_getElem hk]; simp [List.getD, hk]
  have hn : m.tr.getD k 0 ∉ m.tr.take k := fun hm => by have := (hw.take_iff hk).1 hm; omega
  have hn2 : -(m.tr.getD k 0) ∉ m.tr.take k := fun hm => hw.nb (getD_mem' hk) (List.mem_of_mem_take hm)
  have h0 : valL V (m.tr.getD k 0) ≠ 2 := fun h2 => hn2 ((h.tv _).1 ((val_false h.vv).1 h2))
  refine ⟨h.vv.setV _, by rw [setV_len]; exact h.vl, fun l => ?_⟩
  rw [valL_setV ⟨hr.1, by rw [h.vl]; omega⟩ h0, e, List.mem_append, List.mem_singleton]
  by_cases e1 : l = m.tr.getD k 0
  · simp [e1]
  · rw [if_neg e1]
    by_cases e2 : l = -(m.tr.getD k 0)
    · rw [if_pos e2]
      exact ⟨fun h => absurd h (by decide), fun h => h.elim (fun h => absurd (e2 ▸ h) hn2) (fun h => absurd h e1)⟩
    · rw [if_neg e2, h.tv]
      exact ⟨.inl, fun h => h.resolve_right e1⟩
theorem GwV.done (h : McI m) {N : Nat} {V : List Int} (hN : m.n ≤ N) (hN2 : N ≤ 4000) (hv : GwV m N m.tr.length V) : McI { m with n := N, vs := V } where
  w := ⟨hN2, hv.vl, hv.vv, fun l => by rw [hv.tv, List.take_of_length_le (Nat.le_refl _)], h.w.one, h.w.told, h.w.sorted, h.w.lt, h.w.lvl, h.w.mps, fun i c hc => by
    obtain ⟨h1, h2, h3⟩ := h.w.cls i c hc
    exact ⟨h1, h2, fun l hl => ⟨⟨(h3 l hl).1.1, Nat.le_trans (h3 l hl).1.2 hN⟩, (h3 l hl).2⟩⟩, h.w.rs0, h.w.dec, h.w.rsn⟩
  l := h.l.congr (fun _ => Iff.rfl) rfl rfl rfl rfl (fun _ hl => hl)
  s := fun i hi c hc => h.s i hi c hc
  r := h.r
theorem vcells_grow {L' : Lay} {N : Nat} (hi : ∀ v, m.n < v → L.wv (2 * v) = nilS ∧ L.wv (2 * v + 1) = nilS ∧ L.lw v = nilS ∧ m.lv v = 0 ∧ m.rs v = none) (hN : m.n ≤ N) (e1 : L'.wv = L.wv) (e2 : L'.lw = L.lw) (e3 : L'.cb = L.cb) :
    vcells L m ++ (Builtin.zeroCells (Value.agg #[.int .i64 0, .pointer none, nilS, nilS, nilS]).cells (N - m.n)).toList = vcells L' { m with n := N } := by
  have hz : (Builtin.zeroCells (Value.agg #[.int .i64 0, .pointer none, nilS, nilS, nilS]).cells (N - m.n)).size = (N - m.n) * 5 := size_zeroCells _ _
  apply List.ext_getElem
  · rw [List.length_append, vcells_len, vcells_len, Array.length_toList, hz]
    show _ = (N + 1) * 5
    omega
  · intro i h1 h2
    have h2' : i < (N + 1) * 5 := by rw [vcells_len] at h2; exact h2
    rw [vcells_at]
    have hcell : ∀ x y, vcell L' { m with n := N } x y = vcell L m x y := fun x y => by
      have hp : ∀ o, ptrO L' o = ptrO L o := fun o => by
        cases o with
        | none => rfl
        | some j => show ptrC L' j = ptrC L j; unfold ptrC; rw [e3]
      match y with
      | 0 => rfl
      | 1 => exact hp _
      | 2 => show L'.wv _ = _; rw [e1]; rfl
      | 3 => show L'.wv _ = _; rw [e1]; rfl
      | y + 4 => show L'.lw _ = _; rw [e2]; rfl
    rw [hcell]
    by_cases hi1 : i < (m.n + 1) * 5
    · rw [List.getElem_append_left (by rw [vcells_len]; exact hi1), vcells_at]
    · rw [List.getElem_append_right (by rw [vcells_len]; omega)]
      have hv : m.n < i / 5 := by omega
      obtain ⟨k1, k2, k3, k4, k5⟩ := hi (i / 5) hv
      have hm : (i - (vcells L m).length) % 5 = i % 5 := by rw [vcells_len]; omega
      have hlt : i - (vcells L m).length < (N - m.n) * 5 := by rw [vcells_len]; omega
      have hz' : (Builtin.zeroCells (Value.agg #[.int .i64 0, .pointer none, nilS, nilS, nilS]).cells (N - m.n)).toList.length = (N - m.n) * 5 := by rw [Array.length_toList]; exact hz
      have hzc : (Builtin.zeroCells (Value.agg #[.int .i64 0, .pointer none, nilS, nilS, nilS]).cells (N - m.n)).toList[i - (vcells L m).length]'(by rw [hz']; exact hlt) = (#[Value.int .i64 0, .pointer none, nilS, nilS, nilS] : Array Value)[(i - (vcells L m).length) % 5]! := by
        simp [Builtin.zeroCells, Value.cells]
      rw [hzc, hm]
      have hlt5 : i % 5 < 5 := Nat.mod_lt _ (by omega)
      unfold vcell
      rcases (show i % 5 = 0 ∨ i % 5 = 1 ∨ i % 5 = 2 ∨ i % 5 = 3 ∨ i % 5 = 4 by omega) with e | e | e | e | e
      · rw [e, k4]; rfl
      · rw [e, k5]; rfl
      · rw [e, k1]; rfl
      · rw [e, k2]; rfl
      · rw [e, k3]; rfl
theorem PropC.set1 {n told nx : Nat} (h : PropC w L n told nx) (N g c : Nat) : PropC (w.setCell ⟨L.p, 1, none⟩ (.slice (some ⟨g, 0, none⟩) (N + 1) c)) { L with vb := g, vc := c } N told nx :=
  ⟨(set_off (.inr (by decide))).trans h.c0, set_at h.c1, (set_off (.inr (by decide))).trans h.c2, (set_off (.inr (by decide))).trans h.c3, (set_off (.inr (by decide))).trans h.c4, (set_off (.inr (by decide))).trans h.c5, (set_off (.inr (by decide))).trans h.c6, (set_off (.inr (by decide))).trans h.c7, fun i => set_fr (h.fr i)⟩
theorem PropC.set0 {n told nx : Nat} (h : PropC w L n told nx) (a b : Nat) : PropC (w.setCell ⟨L.p, 0, none⟩ (.pointer (some ⟨a, 0, none⟩))) { L with ap := a, aq := b } n told nx :=
  ⟨set_at h.c0, (set_off (.inr (by decide))).trans h.c1, (set_off (.inr (by decide))).trans h.c2, (set_off (.inr (by decide))).trans h.c3, (set_off (.inr (by decide))).trans h.c4, (set_off (.inr (by decide))).trans h.c5, (set_off (.inr (by decide))).trans h.c6, (set_off (.inr (by decide))).trans h.c7, fun i => set_fr (h.fr i)⟩
/-- The variables' row has grown, and its cell is stored. -/
theorem MA.growV (h : MA w ρ L m) {N g c : Nat} (hN : m.n < N) {w' : World} (hap : App 0 w w' (.slice (some ⟨L.vb, 0, none⟩) (m.n + 1) L.vc) (.slice (some ⟨g, 0, none⟩) (N + 1) c))
    (ho : w'.ownsRow 0 71 5 (.slice (some ⟨g, 0, none⟩) (N + 1) c) (N + 1) (vcells L m ++ (Builtin.zeroCells (Value.agg #[.int .i64 0, .pointer none, nilS, nilS, nilS]).cells (N - m.n)).toList)) :
    ∃ ρ', MA (w'.setCell ⟨L.p, 1, none⟩ (.slice (some ⟨g, 0, none⟩) (N + 1) c)) ρ' { L with vb := g, vc := c } { m with n := N } ∧ Chr ρ w ρ' (w'.setCell ⟨L.p, 1, none⟩ (.slice (some ⟨g, 0, none⟩) (N + 1) c)) ∧ w'.cell? ⟨L.p, 1, none⟩ = some (.slice (some ⟨L.vb, 0, none⟩) (m.n + 1) L.vc) ∧ w'.frozen? ⟨L.p, 1, none⟩ = false ∧ L.p < w'.heap.size := by
  obtain ⟨hP, hC⟩ := h.app (r0 := .v) hap (fun k hk => by
    have : L.vb = k := by simpa [Value.ownBlock] using hk
    rw [← this]; exact h.rv) (fun k hk => by
    have : g = k := by simpa [Value.ownBlock] using hk
    rw [← this]; exact (own_lt ho).2)
  have hp := hP.at' .p (by nofun)
  have hg : rput ρ (.slice (some ⟨g, 0, none⟩) (N + 1) c) .v g = some .v := by show (if (Value.slice (some ⟨g, 0, none⟩) (N + 1) c).ownBlock = some g then _ else _) = _; exact if_pos rfl
  refine ⟨_, ⟨fun b r hb => Nat.lt_of_lt_of_le (hP.lt b r hb) (Only.setCell _ _ _ _).size, fun v hv => hP.hi v (by have : N < v := hv; omega), fun r => ?_⟩, hC.setCell hp.1 _, hp.2.c1, hp.2.fr 1, Nat.lt_of_lt_of_le (h.lt _ _ h.rp) hap.below.size⟩
  have hk : r ≠ .v → r ≠ .p → At (rput ρ (.slice (some ⟨g, 0, none⟩) (N + 1) c) .v) (w'.setCell ⟨L.p, 1, none⟩ (.slice (some ⟨g, 0, none⟩) (N + 1) c)) L m r := fun h0 h1 => hP.rest hp.1 (Only.setCell _ _ _ _) h0 h1
  cases r with
  | p => exact ⟨hp.1, hp.2.set1 N g c⟩
  | v =>
    refine ⟨hg, ?_⟩
    rw [vcells_grow (L' := { L with vb := g, vc := c }) h.hi (Nat.le_of_lt hN) rfl rfl rfl] at ho
    have hne : L.p ≠ g := fun e => by have h1 := hp.1; rw [e, hg] at h1; cases h1
    exact own_out5 ho hne 1 _
  | _ => exact hk (by nofun) (by nofun)
/-- The values are new. -/
theorem MA.newA (h : MA w ρ L m) {w' : World} {a b : Nat} {V : List Int} (ha : Asg w' w.heap.size (.pointer (some ⟨a, 0, none⟩)) a b V) (hb : Below w.heap.size w w') :
    ∃ ρ', MA (w'.setCell ⟨L.p, 0, none⟩ (.pointer (some ⟨a, 0, none⟩))) ρ' { L with ap := a, aq := b } { m with vs := V } ∧ Chr ρ w ρ' (w'.setCell ⟨L.p, 0, none⟩ (.pointer (some ⟨a, 0, none⟩))) ∧ w'.cell? ⟨L.p, 0, none⟩ = some (.pointer (some ⟨L.ap, 0, none⟩)) ∧ w'.frozen? ⟨L.p, 0, none⟩ = false ∧ L.p < w'.heap.size := by
  have h1 := h.below hb
  have hpl := h.lt _ _ h.rp
  obtain ⟨ρ', hρ⟩ : ∃ ρ' : Nat → Option Rl, ρ' = fun q => if q = a ∨ q = b then some .a else ρ q := ⟨_, rfl⟩
  have hold : ∀ q r, ρ q = some r → ρ' q = some r := fun q r hq => by
    rw [hρ]
    show (if q = a ∨ q = b then some Rl.a else ρ q) = _
    rw [if_neg]
    · exact hq
    · have := h.lt q r hq
      have := ha.bp
      have := ha.bq
      omega
  have hpa : L.p ≠ a := fun e => by have := ha.bp; omega
  have hpb : L.p ≠ b := fun e => by have := ha.bq; omega
  have hra : ρ' a = some .a := by rw [hρ]; simp
  have hrb : ρ' b = some .a := by rw [hρ]; simp
  have hp := hold _ _ h.rp
  refine ⟨ρ', ⟨fun q r hq => ?_, h.hi, fun r => ?_⟩, ⟨hb.os, hb.tape, hb.output, Nat.le_trans hb.size (Only.setCell _ _ _ _).size, fun i hi hn => ?_, fun i hi hn => ?_⟩, h1.pc.c0, h1.pc.fr 0, Nat.lt_of_lt_of_le hpl hb.size⟩
  · rw [hρ] at hq
    have hq' : (if q = a ∨ q = b then some Rl.a else ρ q) = some r := hq
    have hsz : (w'.setCell ⟨L.p, 0, none⟩ (.pointer (some ⟨a, 0, none⟩))).heap.size = w'.heap.size := by simp [World.setCell]
    rw [hsz]
    split at hq'
    · rename_i e
      rcases e with rfl | rfl
      · exact ha.sp
      · exact ha.sq
    · exact Nat.lt_of_lt_of_le (h.lt q r hq') hb.size
  · have hk : r ≠ .p → r ≠ .a → At ρ' (w'.setCell ⟨L.p, 0, none⟩ (.pointer (some ⟨a, 0, none⟩))) L m r := fun h0 h2 => (h1.rest h1.rp (Only.setCell _ _ _ _) h0).keep (fun q hq => Nat.lt_of_lt_of_le (h1.lt q r hq) (Only.setCell _ _ _ _).size) (Nat.le_refl _) fun q hq => ⟨hold q r hq, rfl⟩
    cases r with
    | p => exact ⟨hp, h1.pc.set0 a b⟩
    | a => exact ⟨hra, hrb, (ha.base (Nat.zero_le _)).other (Only.setCell _ _ _ _) hpa.symm hpb.symm⟩
    | _ => exact hk (by nofun) (by nofun)
  · have : L.p ≠ i := fun e => by subst e; rw [h.rp] at hn; cases hn
    exact (Below.heap_setCell _ _ _ _ (fun e => this e.symm)).trans (hb.block i hi)
  · rw [hρ]
    show (if i = a ∨ i = b then some Rl.a else ρ i) = none
    rw [if_neg]
    · exact hn
    · have := ha.bp
      have := ha.bq
      omega
end
end Go.Proofs.Ytjlmooimdogmjaa

namespace Go.Proofs.Ytjlmooimdogmjaa
open Go.RowKit

def gN (k : Int) : Nat := (min (max k 0) 4000).toNat
def GrowR (w : World) (ρ : Nat → Option Rl) (L : Lay) (m : Mc) (k : Int) (w' : World) : Prop :=
  (gN k ≤ m.n ∧ w' = w) ∨ (m.n < gN k ∧ ∃ ρ' L' V, Chr ρ w ρ' w' ∧ L'.p = L.p ∧ MA w' ρ' L' { m with n := gN k, vs := V } ∧ McI { m with n := gN k, vs := V })
/-- What Grow holds to, of the prop in memory, while it sets. -/
def GrI (w : World) (ρ : Nat → Option Rl) (L : Lay) (m : Mc) (N j : Nat) (wr : World) (ρ1 : Nat → Option Rl) (L1 : Lay) : Prop :=
  ∃ V, MA wr ρ1 L1 { m with n := N, vs := V } ∧ Chr ρ w ρ1 wr ∧ L1.p = L.p ∧ L1.trv = L.trv ∧ GwV m N j V
theorem zero1 : ∀ u ∈ (Value.agg #[.int .i64 0, .pointer none, nilS, nilS, nilS]).cells.toList, u.oneCell' = true := by
  intro u hu
  simp only [Value.cells, List.mem_cons, List.not_mem_nil, or_false] at hu
  rcases hu with rfl | rfl | rfl | rfl | rfl <;> rfl
section
variable {w : World} {ρ : Nat → Option Rl} {L : Lay} {m : Mc}

set_option maxRecDepth 8000 in
set_option maxHeartbeats 16000000 in
theorem mgrow_any (h : MA w ρ L m) (hI : McI m) (k : Int) (h1 : -9223372036854775808 ≤ k) (h2 : k ≤ 9223372036854775807) :
    Calls Try.prog 58 #[ptrP L, .int .i64 k] w fun e w' => e = .returned (.tuple #[]) ∧ GrowR w ρ L m k w' := by
  have hn := hI.w.n
  unfold ptrP at *
  obtain ⟨N, hN, hNk⟩ : ∃ N : Nat, gN k = N ∧ min (max k 0) 4000 = (N : Int) := ⟨gN k, rfl, by unfold gN; omega⟩
  have hN2 : N ≤ 4000 := by omega
  obtain ⟨D, hD⟩ : ∃ D : Int, D = (N : Int) - (m.n : Int) := ⟨_, rfl⟩
  have hcs : k < 0 ∧ (N : Int) = 0 ∨ k = 0 ∧ (N : Int) = 0 ∨ (0 < k ∧ k < 4000 ∧ k = (N : Int)) ∨ k = 4000 ∧ (N : Int) = 4000 ∨ 4000 < k ∧ (N : Int) = 4000 := by omega
  have htl : m.tr.length ≤ 4000 := Nat.le_trans hI.w.tr_len hn
  obtain ⟨ta, tc, hts, ht1, ht2⟩ := ro_shape (h.at' .tr)
  rw [List.length_map] at hts ht1
  unfold maxLen at ht2
  have c1 := h.pc.c1
  have c2 := h.pc.c2
  rw [hts] at c2
  obtain ⟨ivar, hiv⟩ : ∃ i, Try.prog.info? 71 = some i ∧ i.zero = some (.agg #[.int .i64 0, .pointer none, nilS, nilS, nilS]) ∧ i.size = 5 ∧ i.bytes ≤ 1000 := by
    have := infoVar
    cases hq : Try.prog.info? 71 with
    | none => rw [hq] at this; cases this
    | some i =>
      rw [hq] at this
      injection this with this
      injection this with a1 a2
      injection a2 with a2 a3
      exact ⟨i, rfl, a1, a2, by rw [a3]; decide⟩
  have HIV := Lib.hid hiv
  clear hiv
  have HM := Lib.hid h
  have HI := Lib.hid hI
  have HTS := Lib.hid hts
  have HN := Lib.hid hN
  have HNV := Lib.hid (show min (max k 0) 4000 + 1 = ((N + 1 : Nat) : Int) by omega)
  have HOWN := Lib.hid (h.at' .v).2
  clear h hI hN hts hNk
  generalize hTL : m.tr.length = TL at *
  have HTL := Lib.hid hTL
  clear hTL
  generalize hMN : m.n = mn at *
  have HMN := Lib.hid hMN
  clear hMN
  have HD := Lib.hid hD
  clear hD
  go_enter Try.func58, Try.ntmps58
  go_upto_region 0 with fail
  go_cut [4] (fun u W => u = .int .i64 D ∧ W = w)
  case first =>
    rcases hcs with ⟨e, e2⟩ | ⟨e, e2⟩ | ⟨e, e2, e3⟩ | ⟨e, e2⟩ | ⟨e, e2⟩
    · have e3 : ¬ (0 : Int) < k := by omega
      go_wp2_with fail
      go_meet
      exact ⟨congrArg (Value.int .i64) (by have := HD.out; omega), rfl⟩
    · subst e
      go_wp2_with fail
      go_meet
      exact ⟨congrArg (Value.int .i64) (by have := HD.out; omega), rfl⟩
    · have e4 : ¬ k < 0 := by omega
      have e5 : ¬ 4000 < k := by omega
      have HDK : Hid (D = k - (mn : Int)) := by unfold Hid; rw [HD.out, e3]
      clear e3
      go_wp2_with fail
      go_meet
      exact ⟨congrArg (Value.int .i64) (by have := HDK.out; omega), rfl⟩
    · subst e
      go_wp2_with fail
      go_meet
      exact ⟨congrArg (Value.int .i64) (by have := HD.out; omega), rfl⟩
    · have e4 : ¬ k < 0 := by omega
      have e5 : ¬ k < 4000 := by omega
      have e6 : 0 < k := by omega
      go_wp2_with fail
      go_meet
      exact ⟨congrArg (Value.int .i64) (by have := HD.out; omega), rfl⟩
  case rest =>
    obtain ⟨rfl, rfl⟩ := hcut
    clear hcs
    by_cases hd : D ≤ 0
    · have HE : Hid (GrowR wc ρ L m k wc) := .inl ⟨by rw [HN.out, HMN.out]; have := HD.out; omega, rfl⟩
      go_wp2_with fail
      refine bodyPost_ret (results_none rfl _ _ _) rfl ?_
      exact ⟨rfl, HE.out⟩
    · obtain ⟨d, rfl⟩ : ∃ d : Nat, D = (d : Int) := ⟨D.toNat, by omega⟩
      have hd5 : mn + 1 + d ≤ 100000 := by have := HD.out; omega
      have hd0 : 0 < d := by omega
      have hD := HD.out
      have hdN : mn + 1 + d = N + 1 := by omega
      have hdd : Hid (N - mn = d) := by unfold Hid; omega
      have HLT : Hid (mn < N) := by unfold Hid; omega
      have HNE := Lib.hid (fun (W : World) => new_any k W h1 h2)
      clear hD
      go_upto_region 3 with (at_builtin; refine wpList_app_zeros rfl _ _ _ 63 3 71 rfl _ (.agg #[.int .i64 0, .pointer none, nilS, nilS, nilS]) .i64 5 Try.underlying63 Try.underlying3 HIV.out.1 HIV.out.2.1 HIV.out.2.2.1 rfl (by decide) HIV.out.2.2.2 zero1 L.vb (mn + 1) L.vc _ HOWN.out d hd0 hd5 rfl rfl ?_; intro g5 k5 w5 hown5 hap5; rw [hdN] at hown5 hap5; rw [← hdd.out, ← HMN.out] at hown5; rw [← HMN.out] at hap5; obtain ⟨ρ5, hM5, hC5, k1, f1, l1⟩ := HM.out.growV (by rw [HMN.out]; exact HLT.out) hap5 hown5; rw [HMN.out] at k1; have HM5 := Lib.hid hM5; have HC5 := Lib.hid hC5; clear hM5 hC5 hown5 hap5)
      go_cut [30] (fun _ W => ∃ ρ1 L1, GrI wc ρ L m N 0 W ρ1 L1)
      case first =>
        go_wp2_with fail
        refine (HNE.out _).mono ?_
        rintro e w7 ⟨pp, qq, rfl, ha7, hb7⟩
        rw [newV_of (m := N + 1) HNV.out] at ha7
        obtain ⟨ρ7, hM7, hC7, k0, f0, l0⟩ := HM5.out.newA ha7 hb7
        have HM7 := Lib.hid hM7
        have HC7 := Lib.hid hC7
        clear hM7 hC7 ha7 hb7 HNE
        go_wp2_with fail
        go_meet
        exact ⟨_, _, _, HM7.out, HC5.out.trans HC7.out, rfl, rfl, GwV.start hN2⟩
      case rest =>
        obtain ⟨ρ1, L1, V, hM, hC, hp1, ht1', hV⟩ := hcut
        rename World => wr
        have c2' := hM.pc.c2
        rw [hp1, ht1', HTS.out] at c2'
        have HB0 : Hid (∃ ρ1 L1, GrI wc ρ L m N 0 wr ρ1 L1) := ⟨ρ1, L1, V, hM, hC, hp1, ht1', hV⟩
        clear hM hC hp1 ht1' hV c1 c2
        go_wp2_with fail
        go_loopw [6, 38] (fun _ u38 W => ∃ (j : Nat) (ρ1 : Nat → Option Rl) (L1 : Lay), j ≤ TL ∧ u38 = .int .i64 (j : Int) ∧ GrI wc ρ L m N j W ρ1 L1) (fun _ u38 _ => TL - (intOf u38).toNat)
        case atStart =>
          obtain ⟨ρ1, L1, h⟩ := HB0.out
          exact ⟨0, ρ1, L1, by omega, rfl, h⟩
        case round =>
          obtain ⟨j, ρ1, L1, hj, rfl, V, hM, hC, hp1, htv, hV⟩ := hrel
          have HM1 := Lib.hid hM
          have HC1 := Lib.hid hC
          have HV1 := Lib.hid hV
          have HP1 := Lib.hid hp1
          have HTV1 := Lib.hid htv
          by_cases hjl : j < TL
          · have hrow := (hM.at' .tr).1
            rw [List.length_map, htv, HTS.out] at hrow
            have hrow : wr.ownsRow 0 3 1 (.slice ta TL tc) TL (m.tr.map (Value.int .i64)) := by rw [← HTL.out]; rw [← HTL.out] at hrow; exact hrow
            obtain ⟨gt, ct, e⟩ := own_at hrow (by omega)
            injection e with e1 e2 e3
            subst e1; subst e3
            clear e2
            have x6 := own_cell hrow (i := j) (u := .int .i64 (m.tr.getD j 0)) (by rw [List.getElem?_map]; simp [List.getD, show j < m.tr.length by rw [HTL.out]; exact hjl])
            have hpl := (HI.out.w.rgt (getD_mem' (show j < m.tr.length by rw [HTL.out]; exact hjl))).2
            rw [HMN.out] at hpl
            obtain ⟨hl1, hl2⟩ := lit_bd hpl hn
            have hst := hV.step HI.out.w (by rw [HMN.out]; exact Nat.le_of_lt HLT.out) (by rw [HTL.out]; exact hjl)
            obtain ⟨y, hy⟩ : ∃ y, m.tr.getD j 0 = y := ⟨_, rfl⟩
            rw [hy] at x6 hpl hl1 hl2 hst
            have HST := Lib.hid hst
            have HS := Lib.hid (set_any hM.asg y (by omega) (by omega))
            have c0 := hM.pc.c0
            rw [hp1] at c0
            clear hM hC hV hp1 htv hst hy hrow hpl
            go_wp2_with fail
            refine HS.out.mono ?_
            rintro e w8 ⟨rfl, ha8, ho8⟩
            have HM8 := Lib.hid (HM1.out.asgSet ho8 ha8)
            have HC8 := Lib.hid (HC1.out.trans (Chr.of_only (HM1.out.at' .a).2.1 ho8))
            clear ha8 ho8 c0 x6
            go_wp2_with fail
            go_roundw
            case rel => exact ⟨j + 1, ρ1, L1, by omega, by go_num, _, HM8.out, HC8.out, HP1.out, HTV1.out, HST.out⟩
            case measure => go_light; simp [intOf]; omega
          · have hje : j = TL := by omega
            have HE : Hid (GrowR wc ρ L m k wr) := by
              refine .inr ⟨by rw [HMN.out, HN.out]; exact HLT.out, ρ1, L1, V, hC, hp1, ?_, ?_⟩
              · rw [HN.out]; exact hM
              · rw [HN.out]
                refine GwV.done HI.out ?_ hN2 ?_
                · rw [HMN.out]; exact Nat.le_of_lt HLT.out
                · rw [HTL.out, ← hje]; exact hV
            clear hM hC hV hp1 htv
            go_wp2_with fail
            (try simp only [Exit.inBlock, Exit.then])
            refine bodyPost_end (results_none rfl _ _ _) rfl ?_
            exact ⟨rfl, HE.out⟩

end
end Go.Proofs.Ytjlmooimdogmjaa
