/- One more clause in memory, and as data: its block, its literals' block, its place in the map. Conditions: the prop lies in memory as 'MA' says. · Laws of the plain list that lits.Norm answers: strictly in order, with the same members, and the only such list. Holds for all lists of ints; no conditions. · When Norm says something, of literals that a prop knows. No conditions beyond those typed. -/
import Derived.Test.YtjlmooimdogmjaaLg25
import Derived.Test.YtjlmooimdogmjaaLg26
set_option linter.unusedVariables false
set_option linter.unusedSimpArgs false
namespace Go.Proofs.Ytjlmooimdogmjaa
open Go.RowKit
open Go.Maps (IsMap atKey_put_same atKey_put_other)

/-- One more clause, which is to be looked at. -/
def addM (m : Mc) (c : List Int) : Mc := { m with nx := m.nx + 1, mp := upd m.mp m.nx true, cl := upd m.cl m.nx (some c), td := m.td ++ [m.nx] }
/-- It is there, and not yet among those to be looked at. -/
def addN (m : Mc) (c : List Int) : Mc := { m with nx := m.nx + 1, mp := upd m.mp m.nx true, cl := upd m.cl m.nx (some c) }
section
variable {m : Mc}
theorem McW.cl_nx (h : McW m) : m.cl m.nx = none := by
  cases e : m.cl m.nx with
  | none => rfl
  | some c => have := (h.cls _ c e).1; omega
/-- The next number is nowhere. -/
structure NoN (m : Mc) : Prop where
  cl : m.cl m.nx = none
  rs : ∀ v, m.rs v ≠ some m.nx
  td : m.nx ∉ m.td
  wt : ∀ j, m.nx ∉ m.wt j
  lt : ∀ v, m.nx ∉ m.lt v
theorem McI.noN (h : McI m) : NoN m where
  cl := h.w.cl_nx
  rs := fun v e => by
    obtain ⟨p, c, _, _, hc⟩ := h.w.rs_head e
    rw [h.w.cl_nx] at hc; cases hc
  td := fun e => by obtain ⟨_, c, hc⟩ := h.l.tdF _ e; rw [h.w.cl_nx] at hc; cases hc
  wt := fun j e => by obtain ⟨_, a, b, r, hc, _⟩ := h.l.wtc j _ e; rw [h.w.cl_nx] at hc; cases hc
  lt := fun v e => by obtain ⟨_, a, r, hc, _⟩ := h.l.ltc v _ e; rw [h.w.cl_nx] at hc; cases hc
theorem McI.add (h : McI m) {c : List Int} (hc : c.Nodup) (hr : ∀ l ∈ c, (1 ≤ plc l ∧ plc l ≤ m.n) ∧ -l ∉ c) : McI (addM m c) := by
  have hn := h.noN
  have hne : ∀ {i d}, m.cl i = some d → i ≠ m.nx := fun hd e => by rw [e, hn.cl] at hd; cases hd
  have hold : ∀ {i d}, m.cl i = some d → (addM m c).cl i = some d := fun hd => by
    show upd m.cl m.nx (some c) _ = _
    rw [upd_ne _ _ (hne hd)]; exact hd
  have hcl : ∀ {i}, i ≠ m.nx → (addM m c).cl i = m.cl i := fun e => upd_ne _ _ e
  have htd : ∀ i, i ∈ (addM m c).td ↔ i ∈ m.td ∨ i = m.nx := fun i => by show i ∈ m.td ++ [m.nx] ↔ _; simp
  refine ⟨⟨h.w.n, h.w.vl, h.w.vv, h.w.tv, h.w.one, h.w.told, h.w.sorted, h.w.lt, h.w.lvl, fun i => ?_, fun i d hd => ?_, h.w.rs0, h.w.dec, fun i hi hs => ?_⟩, ⟨?_, fun i hi => ?_, h.l.ltN, fun v i hi => ?_, h.l.wtN, fun j i hi => ?_, fun i d hd hF => ?_⟩, fun i hi d hd => ?_, fun i hi v => ?_⟩
  · show upd m.mp m.nx true i = (upd m.cl m.nx (some c) i).isSome
    by_cases e : i = m.nx
    · rw [e, upd_same, upd_same]; rfl
    · rw [upd_ne _ _ e, upd_ne _ _ e]; exact h.w.mps i
  · by_cases e : i = m.nx
    · have : upd m.cl m.nx (some c) i = some d := hd
      rw [e, upd_same] at this
      injection this with this
      subst this
      exact ⟨by rw [e]; exact Nat.lt_succ_self _, hc, hr⟩
    · rw [hcl e] at hd
      obtain ⟨h1, h2⟩ := h.w.cls i d hd
      exact ⟨Nat.lt_succ_of_lt h1, h2⟩
  · obtain ⟨k, d, h1, h2, h3⟩ := h.w.rsn i hi hs
    exact ⟨k, d, h1, hold h2, h3⟩
  · show (m.td ++ [m.nx]).Nodup
    rw [List.nodup_append]
    exact ⟨h.l.tdn, by simp, fun a ha b hb e => by simp at hb; subst hb; subst e; exact hn.td ha⟩
  · refine ⟨hi, ?_⟩
    rcases (htd i).1 hi with h1 | h1
    · obtain ⟨_, d, hd⟩ := h.l.tdF i h1
      exact ⟨d, hold hd⟩
    · exact ⟨c, by show upd m.cl m.nx (some c) i = _; rw [h1, upd_same]⟩
  · obtain ⟨h1, a, r, h2, h3⟩ := h.l.ltc v i hi
    exact ⟨fun hm => ((htd i).1 hm).elim h1 (hne h2), a, r, hold h2, h3⟩
  · obtain ⟨h1, a, b, r, h2, h3⟩ := h.l.wtc j i hi
    exact ⟨fun hm => ((htd i).1 hm).elim h1 (hne h2), a, b, r, hold h2, h3⟩
  · have e : i ≠ m.nx := fun e => hF ((htd i).2 (.inr e))
    rw [hcl e] at hd
    exact h.l.wtd i d hd fun hm => hF ((htd i).2 (.inl hm))
  · have e : i ≠ m.nx := fun e => hi ((htd i).2 (.inr e))
    rw [hcl e] at hd
    exact h.s i (fun hm => hi ((htd i).2 (.inl hm))) d hd
  · rcases (htd i).1 hi with h1 | h1
    · exact h.r i h1 v
    · rw [h1]; exact hn.rs v
end
section
variable {w wa W' : World} {ρ : Nat → Option Rl} {L : Lay} {m : Mc}
def layA (L : Lay) (m : Mc) (B : Nat) (v' : Value) : Lay := { L with cb := upd L.cb m.nx B, cv := upd L.cv m.nx v' }
def rhoA (ρ : Nat → Option Rl) (m : Mc) (B : Nat) (v' : Value) : Nat → Option Rl := fun b => if b = B then some (.c m.nx) else if v'.ownBlock = some b then some (.d m.nx) else ρ b
theorem ptrC_add {B : Nat} {v' : Value} {xs : List Nat} (h : m.nx ∉ xs) : xs.map (ptrC (layA L m B v')) = xs.map (ptrC L) := List.map_congr_left fun x hx => by
  show Value.pointer (some ⟨upd L.cb m.nx B x, 0, none⟩) = _
  rw [upd_ne _ _ (fun e => h (by rw [← e]; exact hx))]
  rfl
theorem vcells_add {B : Nat} {v' : Value} {c : List Int} (h : NoN m) : vcells (layA L m B v') (addN m c) = vcells L m := by
  unfold vcells
  refine List.map_congr_left fun i _ => ?_
  have hp : ptrO (layA L m B v') (m.rs (i / 5)) = ptrO L (m.rs (i / 5)) := by
    cases e : m.rs (i / 5) with
    | none => rfl
    | some k =>
      show Value.pointer (some ⟨upd L.cb m.nx B k, 0, none⟩) = Value.pointer (some ⟨L.cb k, 0, none⟩)
      rw [upd_ne _ _ (fun e' => h.rs _ (e' ▸ e))]
  unfold vcell
  split
  · rfl
  · exact hp
  · rfl
  · rfl
  · rfl
theorem MA.addC (h : MA w ρ L m) (hno : NoN m) {v' : Value} {c : List Int} (hba : Below w.heap.size w wa) (ho : wa.ownsRow w.heap.size 3 1 v' c.length (c.map (Value.int .i64))) {N : Nat} {D : DataW Nat} (hN : N ≤ m.nx) (hDm : IsMap D) (hnx : m.nx ≤ 1000000)
    (hD : ∀ x : Int, -9223372036854775808 ≤ x → x ≤ 9223372036854775807 → D.atKey (.int .i64 x) .nil = atC m.mp L.cb x)
    (hm : W'.ownsMap (H := Nat) Try.prog 3 ptrElem L.mb (N + 1) (D.put (.int .i64 (m.nx : Int)) (.held wa.heap.size)))
    (hg : Only L.mb ((wa.setCell ⟨L.p, 6, none⟩ (.int .i64 ((m.nx + 1 : Nat) : Int))).alloc (.cells #[.int .i64 (m.nx : Int), v'] 77)) W') :
    MA W' (rhoA ρ m wa.heap.size v') (layA L m wa.heap.size v') (addN m c) ∧ Chr ρ w (rhoA ρ m wa.heap.size v') W' := by
  obtain ⟨B, hB⟩ : ∃ B, wa.heap.size = B := ⟨_, rfl⟩
  obtain ⟨W, hW⟩ : ∃ W, (wa.setCell ⟨L.p, 6, none⟩ (.int .i64 ((m.nx + 1 : Nat) : Int))).alloc (.cells #[.int .i64 (m.nx : Int), v'] 77) = W := ⟨_, rfl⟩
  rw [hW] at hg
  rw [hB] at hm ⊢
  have hsz0 : (wa.setCell ⟨L.p, 6, none⟩ (.int .i64 ((m.nx + 1 : Nat) : Int))).heap.size = B := by rw [← hB]; simp [World.setCell]
  have hsz : W.heap.size = B + 1 := by rw [← hW, alloc_sz, hsz0]
  have hwB : w.heap.size ≤ B := by rw [← hB]; exact hba.size
  have hs' : W.heap.size ≤ W'.heap.size := hg.size
  have hobk : ∀ b, v'.ownBlock = some b → w.heap.size ≤ b ∧ b < B := fun b hb => by rw [← hB]; exact ho.lt b hb
  have hpl := h.lt _ _ h.rp
  have hml := h.lt _ _ (h.at' .mp).1
  have hpm : L.p ≠ L.mb := fun e => by have := h.rp; rw [e, (h.at' .mp).1] at this; cases this
  have hold : ∀ b, b < w.heap.size → rhoA ρ m B v' b = ρ b := fun b hb => by
    unfold rhoA
    rw [if_neg (by omega), if_neg (fun e => by have := hobk b e; omega)]
  have hr : ∀ b r, ρ b = some r → rhoA ρ m B v' b = some r := fun b r hb => (hold b (h.lt b r hb)).trans hb
  have hbW : ∀ b, b < B → b ≠ L.p → W.heap[b]? = wa.heap[b]? := fun b hb hp => by
    rw [← hW, Below.heap_alloc _ _ _ (by rw [hsz0]; exact hb)]
    exact Below.heap_setCell _ _ _ _ (fun e => hp e)
  have hbl : ∀ b, b < w.heap.size → b ≠ L.p → b ≠ L.mb → W'.heap[b]? = w.heap[b]? := fun b hb h1 h2 =>
    (hg.block b (by omega) (fun e => h2 (by injection e))).trans ((hbW b (by omega) h1).trans (hba.block b hb))
  have hnb : W'.heap[B]? = some (.cells #[.int .i64 (m.nx : Int), v'] 77 (0, 0)) := by
    rw [hg.block B (by omega) (fun e => by injection e with e; omega), ← hW]
    have := heap_alloc_new (wa.setCell ⟨L.p, 6, none⟩ (.int .i64 ((m.nx + 1 : Nat) : Int))) (.cells #[.int .i64 (m.nx : Int), v'] 77)
    rw [hsz0] at this
    exact this
  have hk : ∀ r, r ≠ .p → r ≠ .mp → At (rhoA ρ m B v') W' L m r := fun r h1 h2 => (h.at' r).keep (fun b hb => h.lt b r hb) (by omega) fun b hb => ⟨hr b r hb, hbl b (h.lt b r hb) (fun e => by rw [e, h.rp] at hb; injection hb with hb; exact h1 hb.symm) (fun e => by rw [e, (h.at' .mp).1] at hb; injection hb with hb; exact h2 hb.symm)⟩
  refine ⟨⟨fun b r hb => ?_, fun v hv => h.hi v hv, fun r => ?_⟩, ⟨hg.os.trans (by rw [← hW]; exact hba.os), hg.tape.trans (by rw [← hW]; exact hba.tape), hg.output.trans (by rw [← hW]; exact hba.output), by omega, fun i hi hn => hbl i hi (fun e => by rw [e, h.rp] at hn; cases hn) (fun e => by rw [e, (h.at' .mp).1] at hn; cases hn), fun i hi hn => (hold i hi).trans hn⟩⟩
  · unfold rhoA at hb
    split at hb
    · omega
    · split at hb
      · rename_i e; have := hobk b e; omega
      · have := h.lt b r hb; omega
  · cases r with
    | p =>
      refine ⟨hr _ _ h.rp, ?_⟩
      have k1 := (h.pc.keep (hba.block _ hpl)).set6 (m.nx + 1)
      have k2 : PropC W L m.n m.told (m.nx + 1) := k1.keep (by rw [← hW]; exact Below.heap_alloc _ _ _ (by rw [hsz0]; omega))
      have k3 : PropC W' L m.n m.told (m.nx + 1) := k2.keep (hg.block _ (by omega) (fun e => hpm (by injection e)))
      exact ⟨k3.c0, k3.c1, k3.c2, k3.c3, k3.c4, k3.c5, k3.c6, k3.c7, k3.fr⟩
    | mp =>
      refine ⟨hr _ _ (h.at' .mp).1, N + 1, _, hm, Nat.succ_le_succ hN, fun x x1 x2 => ?_⟩
      show _ = if 0 ≤ x ∧ upd m.mp m.nx true x.toNat = true then DataW.held (upd L.cb m.nx B x.toNat) else .nil
      by_cases e : x = (m.nx : Int)
      · subst e
        rw [Int.toNat_natCast, upd_same, upd_same, if_pos ⟨by omega, rfl⟩]
        exact atKey_put_same hDm (show WideAt.IsKeyLit (.int .i64 (m.nx : Int)) from trivial) _ _
      · rw [atKey_put_other (fun e' => e (by injection e')), hD x x1 x2]
        unfold atC
        by_cases h0 : 0 ≤ x
        · have hne : x.toNat ≠ m.nx := fun e' => e (by omega)
          rw [upd_ne _ _ hne, upd_ne _ _ hne]
        · rw [if_neg (fun hh => h0 hh.1), if_neg (fun hh => h0 hh.1)]
    | v =>
      have := hk .v (by nofun) (by nofun)
      refine ⟨this.1, ?_⟩
      rw [vcells_add hno]
      exact this.2
    | td =>
      have := hk .td (by nofun) (by nofun)
      show RolA _ _ _ _ _ (m.td.map (ptrC (layA L m B v')))
      rw [ptrC_add hno.td]
      exact this
    | w j =>
      have := hk (.w j) (by nofun) (by nofun)
      show RolA _ _ _ _ _ ((m.wt j).map (ptrC (layA L m B v')))
      rw [ptrC_add (hno.wt j)]
      exact this
    | l j =>
      have := hk (.l j) (by nofun) (by nofun)
      show RolA _ _ _ _ _ ((m.lt j).map (ptrC (layA L m B v')))
      rw [ptrC_add (hno.lt j)]
      exact this
    | c i =>
      intro d hd
      have hd' : upd m.cl m.nx (some c) i = some d := hd
      show rhoA ρ m B v' (upd L.cb m.nx B i) = _ ∧ W'.heap[upd L.cb m.nx B i]? = some (.cells #[.int .i64 (i : Int), upd L.cv m.nx v' i] _ _)
      by_cases e : i = m.nx
      · subst e
        rw [upd_same, upd_same]
        exact ⟨by unfold rhoA; rw [if_pos rfl], hnb⟩
      · rw [upd_ne _ _ e] at hd'
        rw [upd_ne _ _ e, upd_ne _ _ e]
        exact hk (.c i) (by nofun) (by nofun) d hd'
    | d i =>
      intro d hd
      have hd' : upd m.cl m.nx (some c) i = some d := hd
      show RolA _ _ _ _ (upd L.cv m.nx v' i) _
      by_cases e : i = m.nx
      · subst e
        rw [upd_same] at hd' ⊢
        injection hd' with hd'
        subst hd'
        refine ⟨?_, fun k hk' => ?_⟩
        · rw [List.length_map]
          have ho0 : wa.ownsRow 0 3 1 v' c.length (c.map (Value.int .i64)) := ⟨ho.1, ho.2.imp id fun ⟨g, cap, cur, e1, _, e2⟩ => ⟨g, cap, cur, e1, Nat.zero_le _, e2⟩⟩
          have := (row_keep (ρ := fun b => if v'.ownBlock = some b then some (.d 0) else none) (ρ' := fun b => if v'.ownBlock = some b then some (.d 0) else none) (w' := W') (r := .d 0) (v := v') (xs := c.map (Value.int .i64)) ⟨by rw [List.length_map]; exact ho0, fun b hb => if_pos hb⟩ fun b hb => ⟨hb, ?_⟩).1
          · rwa [List.length_map] at this
          · have hvb : v'.ownBlock = some b := by
              by_cases e : v'.ownBlock = some b
              · exact e
              · have hb' : (if v'.ownBlock = some b then some (Rl.d 0) else none) = some (.d 0) := hb
                rw [if_neg e] at hb'; cases hb'
            have := hobk b hvb
            exact (hg.block b (by omega) (fun e => by injection e with e; omega)).trans (hbW b (by omega) (by omega))
        · unfold rhoA
          have := hobk k hk'
          rw [if_neg (by omega), if_pos hk']
      · rw [upd_ne _ _ e] at hd' ⊢
        exact hk (.d i) (by nofun) (by nofun) d hd'
    | a => exact hk .a (by nofun) (by nofun)
    | tr => exact hk .tr (by nofun) (by nofun)
    | st => exact hk .st (by nofun) (by nofun)
end
end Go.Proofs.Ytjlmooimdogmjaa

namespace Go.Proofs.Ytjlmooimdogmjaa
open Go.RowKit Go.Sort

def leP (x y : Int) : Prop := vw x < vw y ∨ (vw x = vw y ∧ x ≤ y)
def ltP (x y : Int) : Prop := vw x < vw y ∨ (vw x = vw y ∧ x < y)
theorem leP_iff (x y : Int) : (!(ltOf cfO) y x) = true ↔ leP x y := by
  rw [ltO]
  unfold leP
  generalize vw x = a
  generalize vw y = b
  simp; omega
theorem leP_trans {x y z : Int} (h1 : leP x y) (h2 : leP y z) : leP x z := by
  unfold leP at *; omega
theorem ltP_of {x y : Int} (h1 : leP x y) (h2 : y ≠ x) : ltP x y := by
  unfold leP at h1; unfold ltP; omega
theorem ltP_of_le {x y z : Int} (h1 : leP x y) (h2 : ltP y z) : ltP x z := by
  unfold leP at h1; unfold ltP at *; omega
theorem ltP_asymm {x y : Int} (h1 : ltP x y) (h2 : ltP y x) : False := by
  unfold ltP at *; omega
theorem ltP_irrefl {x : Int} (h : ltP x x) : False := by
  unfold ltP at h; omega

theorem sortL_sorted (xs : List Int) : (sortL xs).Pairwise leP := by
  have h := List.pairwise_mergeSort (le := fun x y => !(ltOf cfO) y x) (fun a b c h1 h2 => (leP_iff a c).2 (leP_trans ((leP_iff a b).1 h1) ((leP_iff b c).1 h2)))
    (fun a b => by
      rw [Bool.or_eq_true, leP_iff a b, leP_iff b a]
      unfold leP; omega) xs
  exact h.imp fun {a b} hab => (leP_iff a b).1 hab
theorem sortL_mem (xs : List Int) (x : Int) : x ∈ sortL xs ↔ x ∈ xs := (List.mergeSort_perm xs _).mem_iff

theorem compact_spec (d : Array Int) (hs : ∀ i j, i ≤ j → j < d.size → leP d[i]! d[j]!) : ∀ m, m ≤ d.size → (Lib.compactUpTo d m).Pairwise ltP ∧ ∀ x, x ∈ Lib.compactUpTo d m ↔ ∃ j, j < m ∧ d[j]! = x
  | 0, _ => by simp [Lib.compactUpTo]
  | m + 1, hm => by
    obtain ⟨h1, h2⟩ := compact_spec d hs m (by omega)
    rw [Lib.compactUpTo_succ]
    by_cases hk : Lib.keeps d m = true
    · rw [if_pos hk]
      refine ⟨?_, fun x => ?_⟩
      · rw [List.pairwise_append]
        refine ⟨h1, by simp, fun a ha b hb => ?_⟩
        simp at hb
        subst hb
        obtain ⟨j, hj, rfl⟩ := (h2 a).1 ha
        have hne : d[m]! ≠ d[m - 1]! := by
          simp [Lib.keeps] at hk
          rcases hk with hk | hk
          · omega
          · simpa using hk
        exact ltP_of_le (hs j (m - 1) (by omega) (by omega)) (ltP_of (hs (m - 1) m (by omega) (by omega)) hne)
      · rw [List.mem_append, h2 x]
        constructor
        · rintro (⟨j, hj, e⟩ | h)
          · exact ⟨j, by omega, e⟩
          · simp at h; exact ⟨m, by omega, by simp [h]⟩
        · rintro ⟨j, hj, e⟩
          by_cases ej : j = m
          · subst ej; right; simp [← e]
          · left; exact ⟨j, by omega, e⟩
    · rw [if_neg hk]
      refine ⟨by simpa using h1, fun x => ?_⟩
      rw [List.append_nil, h2 x]
      have hk2 : 0 < m ∧ d[m]! = d[m - 1]! := by
        simp only [Lib.keeps, decide_eq_true_eq] at hk
        refine ⟨Nat.pos_of_ne_zero fun e => hk (.inl e), ?_⟩
        exact Classical.byContradiction fun e => hk (.inr e)
      constructor
      · rintro ⟨j, hj, e⟩; exact ⟨j, by omega, e⟩
      · rintro ⟨j, hj, e⟩
        by_cases ej : j = m
        · subst ej; exact ⟨j - 1, by omega, by rw [← e, hk2.2]⟩
        · exact ⟨j, by omega, e⟩

theorem getB (l : List Int) (i : Nat) (h : i < l.length) : l.toArray[i]! = l[i] := by simp [getElem!_pos, h]

theorem norm_spec (xs : List Int) : (normL xs).Pairwise ltP ∧ ∀ x, x ∈ normL xs ↔ x ∈ xs := by
  have hp := sortL_sorted xs
  have hrefl : ∀ a : Int, leP a a := fun a => .inr ⟨rfl, Int.le_refl _⟩
  have hs : ∀ i j, i ≤ j → j < (sortL xs).toArray.size → leP (sortL xs).toArray[i]! (sortL xs).toArray[j]! := by
    intro i j hij hj
    have hj' : j < (sortL xs).length := by simpa using hj
    rw [getB _ i (by omega), getB _ j hj']
    by_cases e : i = j
    · subst e; exact hrefl _
    · exact List.pairwise_iff_getElem.1 hp i j (by omega) hj' (by omega)
  obtain ⟨h1, h2⟩ := compact_spec (sortL xs).toArray hs (sortL xs).length (by simp)
  refine ⟨h1, fun x => ?_⟩
  rw [← sortL_mem xs x]
  refine (h2 x).trans ?_
  constructor
  · rintro ⟨j, hj, e⟩; rw [getB _ j hj] at e; rw [← e]; exact List.getElem_mem hj
  · intro h; obtain ⟨j, hj, e⟩ := List.getElem_of_mem h; exact ⟨j, hj, by rw [getB _ j hj]; exact e⟩

theorem ltP_unique : ∀ l1 l2 : List Int, l1.Pairwise ltP → l2.Pairwise ltP → (∀ x, x ∈ l1 ↔ x ∈ l2) → l1 = l2
  | [], [], _, _, _ => rfl
  | [], b :: l2, _, _, h => by have := (h b).2 (by simp); simp at this
  | a :: l1, [], _, _, h => by have := (h a).1 (by simp); simp at this
  | a :: l1, b :: l2, h1, h2, h => by
    rw [List.pairwise_cons] at h1 h2
    have hab : a = b := by
      have ha := (h a).1 (by simp)
      have hb := (h b).2 (by simp)
      simp only [List.mem_cons] at ha hb
      rcases ha with ha | ha
      · exact ha
      · rcases hb with hb | hb
        · exact hb.symm
        · exact absurd (h1.1 b hb) fun e => ltP_asymm e (h2.1 a ha)
    subst hab
    congr 1
    refine ltP_unique l1 l2 h1.2 h2.2 fun x => ?_
    have hx := h x
    simp only [List.mem_cons] at hx
    constructor
    · intro hm
      rcases hx.1 (.inr hm) with e | e
      · subst e; exact absurd (h1.1 x hm) fun e => ltP_irrefl e
      · exact e
    · intro hm
      rcases hx.2 (.inr hm) with e | e
      · subst e; exact absurd (h2.1 x hm) fun e => ltP_irrefl e
      · exact e

/-- Norm's list is the one list in order with those members. -/
theorem norm_eq (xs l : List Int) (hp : l.Pairwise ltP) (hm : ∀ x, x ∈ l ↔ x ∈ xs) : normL xs = l :=
  ltP_unique _ _ (norm_spec xs).1 hp fun x => ((norm_spec xs).2 x).trans (hm x).symm
theorem norm_congr (xs ys : List Int) (hm : ∀ x, x ∈ xs ↔ x ∈ ys) : normL xs = normL ys :=
  norm_eq xs _ (norm_spec ys).1 fun x => ((norm_spec ys).2 x).trans (hm x).symm
theorem norm_iff (xs ys : List Int) : normL xs = normL ys ↔ ∀ x, x ∈ xs ↔ x ∈ ys :=
  ⟨fun h x => by rw [← (norm_spec xs).2 x, h, (norm_spec ys).2 x], norm_congr xs ys⟩
theorem norm_norm (xs : List Int) : normL (normL xs) = normL xs := norm_eq _ _ (norm_spec xs).1 fun _ => Iff.rfl
end Go.Proofs.Ytjlmooimdogmjaa

namespace Go.Proofs.Ytjlmooimdogmjaa
open Go.RowKit

theorem vw_known {n : Nat} {x : Int} (h : plc x ≤ n) (hn : n ≤ 4000) : vw x = (plc x : Int) := by
  have e := plc_abs x
  rw [e]
  unfold absI at e ⊢
  unfold vw
  by_cases h : x < 0
  · rw [if_pos h] at e
    rw [if_pos h, if_pos h, IntWalk.wrap64_in _ ⟨by omega, by omega⟩]
  · rw [if_neg h, if_neg h]
theorem ltP_irr {x : Int} (h : ltP x x) : False := ltP_asymm h h
/-- Of literals that are known Norm says something just where none stands with its opposite. -/
theorem says_known {n : Nat} {xs : List Int} (hn : n ≤ 4000) (h : ∀ x ∈ xs, 1 ≤ plc x ∧ plc x ≤ n) : normSays (normL xs) = true ↔ ∀ x ∈ xs, -x ∉ xs := by
  obtain ⟨hp, hm⟩ := norm_spec xs
  generalize normL xs = l at *
  have hk : ∀ x ∈ l, 1 ≤ plc x ∧ plc x ≤ n := fun x hx => h x ((hm x).1 hx)
  have hw : ∀ i, (hi : i < l.length) → vw l[i] = (plc l[i] : Int) := fun i hi => vw_known (hk _ (List.getElem_mem hi)).2 hn
  have hiff : (∀ x ∈ xs, -x ∉ xs) ↔ ∀ x ∈ l, -x ∉ l := ⟨fun k x hx hn => k x ((hm x).1 hx) ((hm _).1 hn), fun k x hx hn => k x ((hm x).2 hx) ((hm _).2 hn)⟩
  rw [hiff]
  constructor
  · intro hs
    have key : ∀ i j, (hi : i < l.length) → (hj : j < l.length) → i < j → l[j] = -l[i] → False := fun i j hi hj hij he => by
      have hj1 : j = i + 1 := by
        rcases Nat.lt_or_ge (i + 1) j with h' | h'
        · exfalso
          have hi1 : i + 1 < l.length := by omega
          have a := List.pairwise_iff_getElem.1 hp i (i + 1) hi hi1 (by omega)
          have b := List.pairwise_iff_getElem.1 hp (i + 1) j hi1 hj h'
          unfold ltP at a b
          rw [hw i hi, hw _ hi1] at a
          rw [hw j hj, hw _ hi1] at b
          have e1 : plc l[j] = plc l[i] := by rw [he, plc_ng]
          have e2 : plc l[i + 1] = plc l[i] := by omega
          rcases plc_pm e2 with e | e
          · rw [e] at a; omega
          · rw [e] at a b; rw [he] at b; omega
        · omega
      subst hj1
      have := normSays_false l (i + 1) (by omega) hj (by rw [Nat.add_sub_cancel]; simpa [List.getD, hi, hj] using he)
      rw [hs] at this
      cases this
    intro x hx hxn
    obtain ⟨i, hi, rfl⟩ := List.getElem_of_mem hx
    obtain ⟨j, hj, he⟩ := List.getElem_of_mem hxn
    rcases Nat.lt_trichotomy i j with h' | h' | h'
    · exact key i j hi hj h' he
    · subst h'
      have h1 := (hk _ hx).1
      have e := plc_abs l[i]
      unfold absI at e
      split at e <;> omega
    · exact key j i hj hi h' (by omega)
  · intro hs
    refine normSays_true l fun i h1 h2 he => ?_
    have e1 : l.getD i 0 = l[i] := by simp [List.getD, h2]
    have e0 : l.getD (i - 1) 0 = l[i - 1] := by simp [List.getD, show i - 1 < l.length by omega]
    rw [e1, e0] at he
    exact hs l[i - 1] (List.getElem_mem (by omega)) (by rw [← he]; exact List.getElem_mem h2)
theorem norm_nodup (xs : List Int) : (normL xs).Nodup := by
  have h := (norm_spec xs).1
  unfold List.Nodup
  exact h.imp fun {a b} hab e => by subst e; exact ltP_irr hab
end Go.Proofs.Ytjlmooimdogmjaa
