/- A prop in memory: what single stores and appends leave of it. No conditions beyond those typed. -/
import Derived.Test.YtjlmooimdogmjaaLg08
set_option linter.unusedVariables false
set_option linter.unusedSimpArgs false
namespace Go.Proofs.Ytjlmooimdogmjaa
open Go.RowKit

section
variable {w w' : World} {ρ ρ' : Nat → Option Rl} {L : Lay} {m : Mc}

/-! ### The prop's own cells -/
theorem PropC.set2 {n told nx : Nat} (h : PropC w L n told nx) (u : Value) : PropC (w.setCell ⟨L.p, 2, none⟩ u) { L with trv := u } n told nx :=
  ⟨(set_off (.inr (by decide))).trans h.c0, (set_off (.inr (by decide))).trans h.c1, set_at h.c2, (set_off (.inr (by decide))).trans h.c3, (set_off (.inr (by decide))).trans h.c4, (set_off (.inr (by decide))).trans h.c5, (set_off (.inr (by decide))).trans h.c6, (set_off (.inr (by decide))).trans h.c7, fun i => set_fr (h.fr i)⟩
theorem PropC.set3 {n told nx : Nat} (h : PropC w L n told nx) (k : Nat) : PropC (w.setCell ⟨L.p, 3, none⟩ (.int .i64 (k : Int))) L n k nx :=
  ⟨(set_off (.inr (by decide))).trans h.c0, (set_off (.inr (by decide))).trans h.c1, (set_off (.inr (by decide))).trans h.c2, set_at h.c3, (set_off (.inr (by decide))).trans h.c4, (set_off (.inr (by decide))).trans h.c5, (set_off (.inr (by decide))).trans h.c6, (set_off (.inr (by decide))).trans h.c7, fun i => set_fr (h.fr i)⟩
theorem PropC.set4 {n told nx : Nat} (h : PropC w L n told nx) (u : Value) : PropC (w.setCell ⟨L.p, 4, none⟩ u) { L with stv := u } n told nx :=
  ⟨(set_off (.inr (by decide))).trans h.c0, (set_off (.inr (by decide))).trans h.c1, (set_off (.inr (by decide))).trans h.c2, (set_off (.inr (by decide))).trans h.c3, set_at h.c4, (set_off (.inr (by decide))).trans h.c5, (set_off (.inr (by decide))).trans h.c6, (set_off (.inr (by decide))).trans h.c7, fun i => set_fr (h.fr i)⟩
theorem PropC.set6 {n told nx : Nat} (h : PropC w L n told nx) (k : Nat) : PropC (w.setCell ⟨L.p, 6, none⟩ (.int .i64 (k : Int))) L n told k :=
  ⟨(set_off (.inr (by decide))).trans h.c0, (set_off (.inr (by decide))).trans h.c1, (set_off (.inr (by decide))).trans h.c2, (set_off (.inr (by decide))).trans h.c3, (set_off (.inr (by decide))).trans h.c4, (set_off (.inr (by decide))).trans h.c5, set_at h.c6, (set_off (.inr (by decide))).trans h.c7, fun i => set_fr (h.fr i)⟩
theorem PropC.set7 {n told nx : Nat} (h : PropC w L n told nx) (u : Value) : PropC (w.setCell ⟨L.p, 7, none⟩ u) { L with tdv := u } n told nx :=
  ⟨(set_off (.inr (by decide))).trans h.c0, (set_off (.inr (by decide))).trans h.c1, (set_off (.inr (by decide))).trans h.c2, (set_off (.inr (by decide))).trans h.c3, (set_off (.inr (by decide))).trans h.c4, (set_off (.inr (by decide))).trans h.c5, (set_off (.inr (by decide))).trans h.c6, set_at h.c7, fun i => set_fr (h.fr i)⟩

theorem MA.rp (h : MA w ρ L m) : ρ L.p = some .p := (h.at' .p).1
theorem MA.rv (h : MA w ρ L m) : ρ L.vb = some .v := (h.at' .v).1
theorem MA.setTold (h : MA w ρ L m) (k : Nat) : MA (w.setCell ⟨L.p, 3, none⟩ (.int .i64 (k : Int))) ρ L { m with told := k } where
  lt := h.lt' (Only.setCell _ _ _ _).size
  hi := h.hi
  at' := fun r => by
    have hk : r ≠ .p → At ρ (w.setCell ⟨L.p, 3, none⟩ (.int .i64 (k : Int))) L m r := fun hne => h.rest h.rp (Only.setCell _ _ _ _) hne
    cases r with
    | p => exact ⟨h.rp, h.pc.set3 k⟩
    | _ => exact hk (by nofun)
/-- The values have turned. -/
theorem MA.asgSet (h : MA w ρ L m) {V : List Int} (ho : Only L.aq w w') (ha : Asg w' 0 (.pointer (some ⟨L.ap, 0, none⟩)) L.ap L.aq V) : MA w' ρ L { m with vs := V } where
  lt := h.lt' ho.size
  hi := h.hi
  at' := fun r => by
    have hr := (h.at' .a).2.1
    have hk : r ≠ .a → At ρ w' L m r := fun hne => h.rest hr ho hne
    cases r with
    | a => exact ⟨(h.at' .a).1, hr, ha⟩
    | _ => exact hk (by nofun)
/-- A variable's cell has turned. -/
theorem MA.vrow (h : MA w ρ L m) {L' : Lay} {m' : Mc} {v k : Nat} (hv : v ≤ m.n) (hk : k < 5) (hn : m'.n = m.n) (h1 : L'.vb = L.vb) (h2 : L'.vc = L.vc) (hc : ∀ x y, y < 5 → ¬(x = v ∧ y = k) → vcell L' m' x y = vcell L m x y) : At ρ (w.setCell ⟨L.vb, v * 5 + k, none⟩ (vcell L' m' v k)) L' m' .v := by
  refine ⟨by rw [h1]; exact h.rv, ?_⟩
  have := own_setAt (h.at' .v).2 (v * 5 + k) (vcell L' m' v k) (by rw [vcells_len]; omega)
  rw [vcells_set hk hn hc] at this
  rw [h1, h2, hn]
  exact this
theorem MA.setLv (h : MA w ρ L m) {v : Nat} (hv : v ≤ m.n) (x : Nat) : MA (w.setCell ⟨L.vb, v * 5, none⟩ (.int .i64 (x : Int))) ρ L { m with lv := upd m.lv v x } where
  lt := h.lt' (Only.setCell _ _ _ _).size
  hi := fun y hy => by
    obtain ⟨a, b, c, d, e⟩ := h.hi y hy
    exact ⟨a, b, c, (upd_ne _ _ (by have : m.n < y := hy; omega)).trans d, e⟩
  at' := fun r => by
    have hk : r ≠ .v → At ρ (w.setCell ⟨L.vb, v * 5, none⟩ (.int .i64 (x : Int))) L m r := fun hne => h.rest h.rv (Only.setCell _ _ _ _) hne
    cases r with
    | v =>
      have := h.vrow (L' := L) (m' := { m with lv := upd m.lv v x }) hv (k := 0) (by omega) rfl rfl rfl (fun a b hb hne => by
        match b with
        | 0 => show Value.int .i64 ((upd m.lv v x a : Nat) : Int) = _; rw [upd_ne _ _ (fun e => hne ⟨e, rfl⟩)]; rfl
        | 1 => rfl
        | 2 => rfl
        | 3 => rfl
        | 4 => rfl
        | b + 5 => omega)
      rw [show vcell L { m with lv := upd m.lv v x } v 0 = .int .i64 (x : Int) by show Value.int .i64 ((upd m.lv v x v : Nat) : Int) = _; rw [upd_same]] at this
      exact this
    | _ => exact hk (by nofun)
theorem MA.setRs (h : MA w ρ L m) {v : Nat} (hv : v ≤ m.n) (x : Option Nat) : MA (w.setCell ⟨L.vb, v * 5 + 1, none⟩ (ptrO L x)) ρ L { m with rs := upd m.rs v x } where
  lt := h.lt' (Only.setCell _ _ _ _).size
  hi := fun y hy => by
    obtain ⟨a, b, c, d, e⟩ := h.hi y hy
    exact ⟨a, b, c, d, (upd_ne _ _ (by have : m.n < y := hy; omega)).trans e⟩
  at' := fun r => by
    have hk : r ≠ .v → At ρ (w.setCell ⟨L.vb, v * 5 + 1, none⟩ (ptrO L x)) L m r := fun hne => h.rest h.rv (Only.setCell _ _ _ _) hne
    cases r with
    | v =>
      have := h.vrow (L' := L) (m' := { m with rs := upd m.rs v x }) hv (k := 1) (by omega) rfl rfl rfl (fun a b hb hne => by
        match b with
        | 1 => show ptrO L (upd m.rs v x a) = _; rw [upd_ne _ _ (fun e => hne ⟨e, rfl⟩)]; rfl
        | 0 => rfl
        | 2 => rfl
        | 3 => rfl
        | 4 => rfl
        | b + 5 => omega)
      rw [show vcell L { m with rs := upd m.rs v x } v 1 = ptrO L x by show ptrO L (upd m.rs v x v) = _; rw [upd_same]] at this
      exact this
    | _ => exact hk (by nofun)

/-! ### A row has grown, or turned -/
def rput (ρ : Nat → Option Rl) (v : Value) (r : Rl) : Nat → Option Rl := fun b => if v.ownBlock = some b then some r else ρ b
/-- One row has turned, perhaps into a new block: the rest is as it was. -/
structure Part (w : World) (ρ : Nat → Option Rl) (L : Lay) (m : Mc) (r0 : Rl) : Prop where
  lt : ∀ b r, ρ b = some r → b < w.heap.size
  hi : ∀ v, m.n < v → L.wv (2 * v) = nilS ∧ L.wv (2 * v + 1) = nilS ∧ L.lw v = nilS ∧ m.lv v = 0 ∧ m.rs v = none
  at' : ∀ r, r ≠ r0 → At ρ w L m r
theorem MA.part (h : MA w ρ L m) (r0 : Rl) : Part w ρ L m r0 := ⟨h.lt, h.hi, fun r _ => h.at' r⟩
theorem MA.app (h : MA w ρ L m) {r0 : Rl} {v v' : Value} (hap : App 0 w w' v v') (hv : ∀ k, v.ownBlock = some k → ρ k = some r0) (hlt : ∀ k, v'.ownBlock = some k → k < w'.heap.size) :
    Part w' (rput ρ v' r0) L m r0 ∧ Chr ρ w (rput ρ v' r0) w' := by
  have hold : ∀ b r, ρ b = some r → r ≠ r0 → v'.ownBlock ≠ some b := fun b r hb hne e => by
    rcases hap.blk with e1 | ⟨g, e1, hg⟩
    · rw [e1] at e
      have := hv b e
      rw [hb] at this
      injection this with this
      exact hne this
    · rw [e1] at e
      injection e with e
      have := h.lt b r hb
      omega
  refine ⟨⟨fun b r hb => ?_, h.hi, fun r hne => ?_⟩, ⟨hap.below.os, hap.below.tape, hap.below.output, hap.below.size, fun i hi hn => hap.other i hi (fun e => by rw [hv i e.symm] at hn; cases hn), fun i hi hn => ?_⟩⟩
  · unfold rput at hb
    split at hb
    · rename_i e; exact hlt b e
    · exact Nat.lt_of_lt_of_le (h.lt b r hb) hap.below.size
  · refine (h.at' r).keep (fun b hb => h.lt b r hb) hap.below.size fun b hb => ⟨?_, hap.other b (h.lt b r hb) (fun e => ?_)⟩
    · unfold rput
      rw [if_neg (hold b r hb hne)]; exact hb
    · have := hv b e.symm
      rw [hb] at this
      injection this with this
      exact hne this
  · unfold rput
    rw [if_neg (fun e => ?_)]
    · exact hn
    · rcases hap.blk with e1 | ⟨g, e1, hg⟩
      · rw [e1] at e
        rw [hv i e] at hn; cases hn
      · rw [e1] at e
        injection e with e
        omega
theorem Part.rest {r0 r1 : Rl} {b : Nat} (h : Part w ρ L m r0) (hr : ρ b = some r1) (ho : Only b w w') {r : Rl} (h0 : r ≠ r0) (h1 : r ≠ r1) : At ρ w' L m r :=
  (h.at' r h0).keep (fun b hb => h.lt b r hb) ho.size fun b' hb' => ⟨hb', ho.block b' (h.lt b' r hb') (fun e => by injection e with e; subst e; rw [hr] at hb'; injection hb' with hb'; exact h1 hb'.symm)⟩
theorem rput_row {e : TypeId} {v : Value} {n : Nat} {xs : List Value} {r0 : Rl} (ho : w.ownsRow 0 e 1 v n xs) : RolA (rput ρ v r0) w r0 e v xs :=
  ⟨by have := ho.1; rw [show xs.length = n by omega]; exact ho, fun k hk => by unfold rput; rw [if_pos hk]⟩
theorem own_out {e : TypeId} {v : Value} {n b : Nat} {xs : List Value} (ho : w.ownsRow 0 e 1 v n xs) (hne : v.ownBlock ≠ some b) (o : Nat) (u : Value) : (w.setCell ⟨b, o, none⟩ u).ownsRow 0 e 1 v n xs := own_other ho (Only.setCell _ _ _ _) hne
theorem own_out5 {e : TypeId} {g n c b : Nat} {xs : List Value} (ho : w.ownsRow 0 e 5 (.slice (some ⟨g, 0, none⟩) n c) n xs) (hne : b ≠ g) (o : Nat) (u : Value) : (w.setCell ⟨b, o, none⟩ u).ownsRow 0 e 5 (.slice (some ⟨g, 0, none⟩) n c) n xs := own_other ho (Only.setCell _ _ _ _) (fun e => hne (by simpa [Value.ownBlock] using e.symm))
theorem rol_out {r r1 : Rl} {e : TypeId} {v : Value} {b : Nat} {xs : List Value} (h : RolA ρ w r e v xs) (hb : ρ b = some r1) (hne : r ≠ r1) (o : Nat) (u : Value) : RolA ρ (w.setCell ⟨b, o, none⟩ u) r e v xs :=
  ⟨own_out h.1 (fun e => by rw [h.2 b e] at hb; injection hb with hb; exact hne hb) o u, h.2⟩

theorem Part.rp {r0 : Rl} (h : Part w ρ L m r0) (hne : Rl.p ≠ r0) : ρ L.p = some .p := (h.at' .p hne).1
theorem Part.rv {r0 : Rl} (h : Part w ρ L m r0) (hne : Rl.v ≠ r0) : ρ L.vb = some .v := (h.at' .v hne).1
/-- The trail's row has turned, and its cell is stored. -/
theorem Part.setTr (h : Part w ρ L m .tr) {v : Value} {xs : List Int} (hr : RolA ρ w .tr 3 v (xs.map (Value.int .i64))) : MA (w.setCell ⟨L.p, 2, none⟩ v) ρ { L with trv := v } { m with tr := xs } where
  lt := fun b r hb => Nat.lt_of_lt_of_le (h.lt b r hb) (Only.setCell _ _ _ _).size
  hi := h.hi
  at' := fun r => by
    have hp := h.rp (by nofun)
    have hk : r ≠ .tr → r ≠ .p → At ρ (w.setCell ⟨L.p, 2, none⟩ v) L m r := fun h0 h1 => h.rest hp (Only.setCell _ _ _ _) h0 h1
    cases r with
    | p => exact ⟨hp, (h.at' .p (by nofun)).2.set2 v⟩
    | tr => exact rol_out hr hp (by nofun) _ _
    | _ => exact hk (by nofun) (by nofun)
theorem Part.setSt (h : Part w ρ L m .st) {v : Value} {xs : List Nat} (hr : RolA ρ w .st 3 v (xs.map fun (s : Nat) => Value.int .i64 (s : Int))) : MA (w.setCell ⟨L.p, 4, none⟩ v) ρ { L with stv := v } { m with st := xs } where
  lt := fun b r hb => Nat.lt_of_lt_of_le (h.lt b r hb) (Only.setCell _ _ _ _).size
  hi := h.hi
  at' := fun r => by
    have hp := h.rp (by nofun)
    have hk : r ≠ .st → r ≠ .p → At ρ (w.setCell ⟨L.p, 4, none⟩ v) L m r := fun h0 h1 => h.rest hp (Only.setCell _ _ _ _) h0 h1
    cases r with
    | p => exact ⟨hp, (h.at' .p (by nofun)).2.set4 v⟩
    | st => exact rol_out hr hp (by nofun) _ _
    | _ => exact hk (by nofun) (by nofun)
theorem Part.setTd (h : Part w ρ L m .td) {v : Value} {xs : List Nat} (hr : RolA ρ w .td 68 v (xs.map (ptrC L))) : MA (w.setCell ⟨L.p, 7, none⟩ v) ρ { L with tdv := v } { m with td := xs } where
  lt := fun b r hb => Nat.lt_of_lt_of_le (h.lt b r hb) (Only.setCell _ _ _ _).size
  hi := h.hi
  at' := fun r => by
    have hp := h.rp (by nofun)
    have hk : r ≠ .td → r ≠ .p → At ρ (w.setCell ⟨L.p, 7, none⟩ v) L m r := fun h0 h1 => h.rest hp (Only.setCell _ _ _ _) h0 h1
    cases r with
    | p => exact ⟨hp, (h.at' .p (by nofun)).2.set7 v⟩
    | td => exact rol_out hr hp (by nofun) _ _
    | _ => exact hk (by nofun) (by nofun)
theorem Part.vrow {r0 : Rl} (h : Part w ρ L m r0) (hr0 : Rl.v ≠ r0) {L' : Lay} {m' : Mc} {v k : Nat} (hv : v ≤ m.n) (hk : k < 5) (hn : m'.n = m.n) (h1 : L'.vb = L.vb) (h2 : L'.vc = L.vc) (hc : ∀ x y, y < 5 → ¬(x = v ∧ y = k) → vcell L' m' x y = vcell L m x y) : At ρ (w.setCell ⟨L.vb, v * 5 + k, none⟩ (vcell L' m' v k)) L' m' .v := by
  refine ⟨by rw [h1]; exact h.rv hr0, ?_⟩
  have := own_setAt (h.at' .v hr0).2 (v * 5 + k) (vcell L' m' v k) (by rw [vcells_len]; omega)
  rw [vcells_set hk hn hc] at this
  rw [h1, h2, hn]
  exact this
/-- A row of those that watch has turned, and its cell is stored. -/
theorem Part.setW {j : Nat} (h : Part w ρ L m (.w j)) (hj : j / 2 ≤ m.n) {v : Value} {xs : List Nat} (hr : RolA ρ w (.w j) 68 v (xs.map (ptrC L))) : MA (w.setCell ⟨L.vb, j / 2 * 5 + (2 + j % 2), none⟩ v) ρ { L with wv := upd L.wv j v } { m with wt := upd m.wt j xs } where
  lt := fun b r hb => Nat.lt_of_lt_of_le (h.lt b r hb) (Only.setCell _ _ _ _).size
  hi := fun y hy => by
    have hy' : m.n < y := hy
    obtain ⟨a, b, c, d, e⟩ := h.hi y hy
    exact ⟨(upd_ne _ _ (by omega)).trans a, (upd_ne _ _ (by omega)).trans b, c, d, e⟩
  at' := fun r => by
    have hp := h.rv (by nofun)
    have hk : r ≠ (.w j) → r ≠ .v → At ρ (w.setCell ⟨L.vb, j / 2 * 5 + (2 + j % 2), none⟩ v) L m r := fun h0 h1 => h.rest hp (Only.setCell _ _ _ _) h0 h1
    cases r with
    | p =>
      obtain ⟨a, b⟩ := hk (by nofun) (by nofun)
      exact ⟨a, ⟨b.c0, b.c1, b.c2, b.c3, b.c4, b.c5, b.c6, b.c7, b.fr⟩⟩
    | v =>
      have := h.vrow (L' := { L with wv := upd L.wv j v }) (m' := { m with wt := upd m.wt j xs }) (by nofun) hj (k := 2 + j % 2) (by omega) rfl rfl rfl (fun a b hb hne => by
        match b with
        | 0 => rfl
        | 1 => rfl
        | 2 => show upd L.wv j v (2 * a) = _; rw [upd_ne _ _ (fun e => hne (by omega))]; rfl
        | 3 => show upd L.wv j v (2 * a + 1) = _; rw [upd_ne _ _ (fun e => hne (by omega))]; rfl
        | 4 => rfl
        | b + 5 => omega)
      rw [show vcell { L with wv := upd L.wv j v } { m with wt := upd m.wt j xs } (j / 2) (2 + j % 2) = v by
        rcases (show j % 2 = 0 ∨ j % 2 = 1 by omega) with e | e
        · rw [e]; show upd L.wv j v (2 * (j / 2)) = v; rw [show 2 * (j / 2) = j by omega, upd_same]
        · rw [e]; show upd L.wv j v (2 * (j / 2) + 1) = v; rw [show 2 * (j / 2) + 1 = j by omega, upd_same]] at this
      exact this
    | w i =>
      by_cases e : i = j
      · subst e
        have := rol_out hr hp (by nofun) (i / 2 * 5 + (2 + i % 2)) v
        show RolA ρ _ (.w i) _ (upd L.wv i v i) ((upd m.wt i xs i).map _)
        rw [upd_same, upd_same]
        exact this
      · have := h.rest hp (Only.setCell w L.vb (j / 2 * 5 + (2 + j % 2)) v) (r := .w i) (fun e' => e (by injection e')) (by nofun)
        show RolA ρ _ (.w i) _ (upd L.wv j v i) ((upd m.wt j xs i).map _)
        rw [upd_ne _ _ e, upd_ne _ _ e]
        exact this
    | _ => exact hk (by nofun) (by nofun)
/-- A row of those that are late has turned, and its cell is stored. -/
theorem Part.setL {j : Nat} (h : Part w ρ L m (.l j)) (hj : j ≤ m.n) {v : Value} {xs : List Nat} (hr : RolA ρ w (.l j) 68 v (xs.map (ptrC L))) : MA (w.setCell ⟨L.vb, j * 5 + 4, none⟩ v) ρ { L with lw := upd L.lw j v } { m with lt := upd m.lt j xs } where
  lt := fun b r hb => Nat.lt_of_lt_of_le (h.lt b r hb) (Only.setCell _ _ _ _).size
  hi := fun y hy => by
    have hy' : m.n < y := hy
    obtain ⟨a, b, c, d, e⟩ := h.hi y hy
    exact ⟨a, b, (upd_ne _ _ (by omega)).trans c, d, e⟩
  at' := fun r => by
    have hp := h.rv (by nofun)
    have hk : r ≠ (.l j) → r ≠ .v → At ρ (w.setCell ⟨L.vb, j * 5 + 4, none⟩ v) L m r := fun h0 h1 => h.rest hp (Only.setCell _ _ _ _) h0 h1
    cases r with
    | p =>
      obtain ⟨a, b⟩ := hk (by nofun) (by nofun)
      exact ⟨a, ⟨b.c0, b.c1, b.c2, b.c3, b.c4, b.c5, b.c6, b.c7, b.fr⟩⟩
    | v =>
      have := h.vrow (L' := { L with lw := upd L.lw j v }) (m' := { m with lt := upd m.lt j xs }) (by nofun) hj (k := 4) (by omega) rfl rfl rfl (fun a b hb hne => by
        match b with
        | 0 => rfl
        | 1 => rfl
        | 2 => rfl
        | 3 => rfl
        | 4 => show upd L.lw j v a = _; rw [upd_ne _ _ (fun e => hne (by omega))]; rfl
        | b + 5 => omega)
      rw [show vcell { L with lw := upd L.lw j v } { m with lt := upd m.lt j xs } j 4 = v by show upd L.lw j v j = v; rw [upd_same]] at this
      exact this
    | l i =>
      by_cases e : i = j
      · subst e
        show RolA ρ _ (.l i) _ (upd L.lw i v i) ((upd m.lt i xs i).map _)
        rw [upd_same, upd_same]
        exact rol_out hr hp (by nofun) _ _
      · have := h.rest hp (Only.setCell w L.vb (j * 5 + 4) v) (r := .l i) (fun e' => e (by injection e')) (by nofun)
        show RolA ρ _ (.l i) _ (upd L.lw j v i) ((upd m.lt j xs i).map _)
        rw [upd_ne _ _ e, upd_ne _ _ e]
        exact this
    | _ => exact hk (by nofun) (by nofun)

/-! ### An append, and the store behind it -/
theorem MA.trApp (h : MA w ρ L m) {v' : Value} {n : Nat} {xs : List Int} (hap : App 0 w w' L.trv v') (ho : w'.ownsRow 0 3 1 v' n (xs.map (Value.int .i64))) :
    ∃ ρ', MA (w'.setCell ⟨L.p, 2, none⟩ v') ρ' { L with trv := v' } { m with tr := xs } ∧ Chr ρ w ρ' (w'.setCell ⟨L.p, 2, none⟩ v') ∧ w'.cell? ⟨L.p, 2, none⟩ = some L.trv ∧ w'.frozen? ⟨L.p, 2, none⟩ = false := by
  obtain ⟨hP, hC⟩ := h.app hap (h.at' .tr).2 (fun k hk => (ho.lt k hk).2)
  have hp := hP.at' .p (by nofun)
  exact ⟨_, hP.setTr (rput_row ho), hC.setCell hp.1 _, hp.2.c2, hp.2.fr 2⟩
theorem MA.stApp (h : MA w ρ L m) {v' : Value} {n : Nat} {xs : List Nat} (hap : App 0 w w' L.stv v') (ho : w'.ownsRow 0 3 1 v' n (xs.map fun (s : Nat) => Value.int .i64 (s : Int))) :
    ∃ ρ', MA (w'.setCell ⟨L.p, 4, none⟩ v') ρ' { L with stv := v' } { m with st := xs } ∧ Chr ρ w ρ' (w'.setCell ⟨L.p, 4, none⟩ v') ∧ w'.cell? ⟨L.p, 4, none⟩ = some L.stv ∧ w'.frozen? ⟨L.p, 4, none⟩ = false := by
  obtain ⟨hP, hC⟩ := h.app hap (h.at' .st).2 (fun k hk => (ho.lt k hk).2)
  have hp := hP.at' .p (by nofun)
  exact ⟨_, hP.setSt (rput_row ho), hC.setCell hp.1 _, hp.2.c4, hp.2.fr 4⟩
theorem MA.tdApp (h : MA w ρ L m) {v' : Value} {n : Nat} {xs : List Nat} (hap : App 0 w w' L.tdv v') (ho : w'.ownsRow 0 68 1 v' n (xs.map (ptrC L))) :
    ∃ ρ', MA (w'.setCell ⟨L.p, 7, none⟩ v') ρ' { L with tdv := v' } { m with td := xs } ∧ Chr ρ w ρ' (w'.setCell ⟨L.p, 7, none⟩ v') ∧ w'.cell? ⟨L.p, 7, none⟩ = some L.tdv ∧ w'.frozen? ⟨L.p, 7, none⟩ = false := by
  obtain ⟨hP, hC⟩ := h.app hap (h.at' .td).2 (fun k hk => (ho.lt k hk).2)
  have hp := hP.at' .p (by nofun)
  exact ⟨_, hP.setTd (rput_row ho), hC.setCell hp.1 _, hp.2.c7, hp.2.fr 7⟩
theorem MA.wApp (h : MA w ρ L m) {j : Nat} (hj : j / 2 ≤ m.n) {v' : Value} {n : Nat} {xs : List Nat} (hap : App 0 w w' (L.wv j) v') (ho : w'.ownsRow 0 68 1 v' n (xs.map (ptrC L))) :
    ∃ ρ', MA (w'.setCell ⟨L.vb, j / 2 * 5 + (2 + j % 2), none⟩ v') ρ' { L with wv := upd L.wv j v' } { m with wt := upd m.wt j xs } ∧ Chr ρ w ρ' (w'.setCell ⟨L.vb, j / 2 * 5 + (2 + j % 2), none⟩ v') ∧ w'.cell? ⟨L.vb, j / 2 * 5 + (2 + j % 2), none⟩ = some (L.wv j) ∧ w'.frozen? ⟨L.vb, j / 2 * 5 + (2 + j % 2), none⟩ = false := by
  obtain ⟨hP, hC⟩ := h.app hap (h.at' (.w j)).2 (fun k hk => (ho.lt k hk).2)
  have hp := hP.at' .v (by nofun)
  refine ⟨_, hP.setW hj (rput_row ho), hC.setCell hp.1 _, ?_, own_frozen hp.2 _⟩
  have := own_cell hp.2 (vcells_get L m (v := j / 2) (k := 2 + j % 2) hj (by omega))
  rw [this]
  rcases (show j % 2 = 0 ∨ j % 2 = 1 by omega) with e | e
  · rw [e]; show some (L.wv (2 * (j / 2))) = _; rw [show 2 * (j / 2) = j by omega]
  · rw [e]; show some (L.wv (2 * (j / 2) + 1)) = _; rw [show 2 * (j / 2) + 1 = j by omega]
theorem MA.lApp (h : MA w ρ L m) {j : Nat} (hj : j ≤ m.n) {v' : Value} {n : Nat} {xs : List Nat} (hap : App 0 w w' (L.lw j) v') (ho : w'.ownsRow 0 68 1 v' n (xs.map (ptrC L))) :
    ∃ ρ', MA (w'.setCell ⟨L.vb, j * 5 + 4, none⟩ v') ρ' { L with lw := upd L.lw j v' } { m with lt := upd m.lt j xs } ∧ Chr ρ w ρ' (w'.setCell ⟨L.vb, j * 5 + 4, none⟩ v') ∧ w'.cell? ⟨L.vb, j * 5 + 4, none⟩ = some (L.lw j) ∧ w'.frozen? ⟨L.vb, j * 5 + 4, none⟩ = false := by
  obtain ⟨hP, hC⟩ := h.app hap (h.at' (.l j)).2 (fun k hk => (ho.lt k hk).2)
  have hp := hP.at' .v (by nofun)
  exact ⟨_, hP.setL hj (rput_row ho), hC.setCell hp.1 _, own_cell hp.2 (vcells_get L m (v := j) (k := 4) hj (by omega)), own_frozen hp.2 _⟩
theorem App.refl (v : Value) : App 0 w w v v := ⟨Below.refl _ _, fun _ _ _ => rfl, .inl rfl⟩
end
end Go.Proofs.Ytjlmooimdogmjaa
