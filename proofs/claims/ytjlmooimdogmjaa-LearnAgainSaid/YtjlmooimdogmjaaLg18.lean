/- The contract of prop's tell. Conditions: the prop lies in memory as 'MA' says, in the middle of what 'TI' says. -/
import Derived.Test.YtjlmooimdogmjaaLg17
set_option linter.unusedVariables false
set_option linter.unusedSimpArgs false
namespace Go.Proofs.Ytjlmooimdogmjaa
open Go.RowKit

def hatM (m : Mc) (x : Int) (W : List Nat) : Mc := { m with wt := upd m.wt (wx x) W }
theorem onlyM_hat (m : Mc) (x : Int) (W : List Nat) (i : Nat) (a : Int) (o : Nat) : onlyM (hatM m x W) i a o = hatM (onlyM m i a o) x W := by
  have hA : onlyA (hatM m x W) i a = hatM (onlyA m i a) x W := by
    show (if valL m.vs a = 0 then _ else _) = hatM (if valL m.vs a = 0 then _ else _) x W
    split <;> rfl
  unfold onlyM
  rw [hA]
  show (if o < (onlyA m i a).lv (plc a) then _ else _) = hatM (if o < (onlyA m i a).lv (plc a) then _ else _) x W
  split <;> rfl
/-- How far tell has come: k of those that watch are gone through. -/
structure TeI (w : World) (ρ : Nat → Option Rl) (L : Lay) (m : Mc) (x : Int) (k : Nat) (kept wrong : List Nat) (vw : Value) (wr : World) (ρ1 : Nat → Option Rl) (L1 : Lay) (mr : Mc) : Prop where
  chr : Chr ρ w ρ1 wr
  lay : LayE L L1
  wv : L1.wv (wx x) = L.wv (wx x)
  ma : MA wr ρ1 L1 mr
  loc : LocR ρ1 wr L vw wrong
  new : ∀ b, vw.ownBlock = some b → w.heap.size ≤ b
  raw : mr.wt (wx x) = kept ++ (m.wt (wx x)).drop kept.length
  le : kept.length ≤ k
  ti : TI (hatM mr x (kept ++ (m.wt (wx x)).drop k)) x ((m.wt (wx x)).drop k) wrong
  x : McX m mr
  td : mr.td = m.td
  told : mr.told = m.told
def TellR (w : World) (ρ : Nat → Option Rl) (L : Lay) (m : Mc) (v : Value) (wrong : List Nat) (w' : World) : Prop :=
  ∃ ρ' L' m', Chr ρ w ρ' w' ∧ LayE L L' ∧ MA w' ρ' L' m' ∧ McI m' ∧ McX m m' ∧ LocR ρ' w' L v wrong ∧ m'.td = m.td ++ wrong ∧ m'.told = m.told ∧ ∀ i ∈ wrong, ∃ c, m'.cl i = some c ∧ ∀ l ∈ c, -l ∈ m'.tr
section
variable {w wr : World} {ρ ρ1 : Nat → Option Rl} {L L1 : Lay} {m mr : Mc} {x : Int} {k : Nat} {kept wrong : List Nat} {vw : Value}
theorem TeI.drewN (h : TeI w ρ L m x k kept wrong vw wr ρ1 L1 mr) (t : Nat) : TeI w ρ L m x k kept wrong vw (wr.drewN t) ρ1 L1 mr :=
  { h with chr := h.chr.drewN t, ma := h.ma.drewN t, loc := h.loc.keep ((Chr.refl _ _).drewN t) }
theorem LocR.nil (ρ : Nat → Option Rl) (w : World) (L : Lay) : LocR ρ w L (.slice none 0 0) [] := ⟨World.ownsRow_nil _ _ _ _, fun k hk => by cases hk⟩
theorem TeI.start (h : MA w ρ L m) (hT : TI m x (m.wt (wx x)) []) : TeI w ρ L m x 0 [] [] (.slice none 0 0) w ρ L m where
  chr := Chr.refl _ _
  lay := LayE.refl _
  wv := rfl
  ma := h
  loc := LocR.nil _ _ _
  new := fun b hb => by cases hb
  raw := rfl
  le := Nat.le_refl _
  ti := by
    show TI (hatM m x (m.wt (wx x))) x (m.wt (wx x)) []
    unfold hatM
    rw [upd_self]; exact hT
  x := McX.refl _
  td := rfl
  told := rfl
theorem TeI.at' (_h : TeI w ρ L m x k kept wrong vw wr ρ1 L1 mr) (hk : k < (m.wt (wx x)).length) : (m.wt (wx x)).drop k = (m.wt (wx x)).getD k 0 :: (m.wt (wx x)).drop (k + 1) := by
  rw [List.drop_eq_getElem_cons hk]; simp [List.getD, hk]
theorem TeI.elem (h : TeI w ρ L m x k kept wrong vw wr ρ1 L1 mr) (hk : k < (m.wt (wx x)).length) : (mr.wt (wx x))[k]? = some ((m.wt (wx x)).getD k 0) := by
  have := h.le
  rw [h.raw, List.getElem?_append_right h.le, List.getElem?_drop, show kept.length + (k - kept.length) = k by omega]
  simp [List.getD, hk]
theorem TeI.rlen (h : TeI w ρ L m x k kept wrong vw wr ρ1 L1 mr) (hk : k ≤ (m.wt (wx x)).length) : (mr.wt (wx x)).length = (m.wt (wx x)).length := by
  have := h.le
  rw [h.raw, List.length_append, List.length_drop]; omega
/-- The two watched literals have changed places. -/
theorem TeI.swap (h : TeI w ρ L m x k kept wrong vw wr ρ1 L1 mr) {i : Nat} (hi : i ∈ (m.wt (wx x)).drop k) {b : Int} {r : List Int} (hc : mr.cl i = some (x :: b :: r)) {w2 : World} (hC : Chr ρ1 wr ρ1 w2) (hM : MA w2 ρ1 L1 (putCl mr i (b :: x :: r))) :
    TeI w ρ L m x k kept wrong vw w2 ρ1 L1 (putCl mr i (b :: x :: r)) :=
  { h with chr := h.chr.trans hC, ma := hM, loc := h.loc.keep hC, ti := h.ti.swap hi hc, x := h.x.trans (McX.putCl hc (List.Perm.swap ..)) }
theorem hat_hat (mr : Mc) (x : Int) (W W2 : List Nat) : hatM { mr with wt := upd mr.wt (wx x) W } x W2 = hatM mr x W2 := by
  unfold hatM
  have : upd (upd mr.wt (wx x) W) (wx x) W2 = upd mr.wt (wx x) W2 := by funext j; unfold upd; split <;> rfl
  rw [this]
/-- What the list's memory holds once one more is kept. -/
def putM (m : Mc) (x : Int) (kept : List Nat) (i : Nat) (mr : Mc) : Mc := { mr with wt := upd mr.wt (wx x) ((mr.wt (wx x)).set kept.length i) }
theorem TeI.raw2 (h : TeI w ρ L m x k kept wrong vw wr ρ1 L1 mr) (hk : k < (m.wt (wx x)).length) (i : Nat) : (putM m x kept i mr).wt (wx x) = (kept ++ [i]) ++ (m.wt (wx x)).drop (kept ++ [i]).length := by
  have hle := h.le
  show upd mr.wt (wx x) _ (wx x) = _
  rw [upd_same, h.raw, List.set_append_right _ _ (Nat.le_refl _), Nat.sub_self, List.length_append]
  have : (m.wt (wx x)).drop kept.length = (m.wt (wx x)).getD kept.length 0 :: (m.wt (wx x)).drop (kept.length + 1) := by
    rw [List.drop_eq_getElem_cons (show kept.length < (m.wt (wx x)).length by omega)]
    simp [List.getD, show kept.length < (m.wt (wx x)).length by omega]
  rw [this, List.set_cons_zero, List.append_assoc]; rfl
theorem TeI.kept2 (h : TeI w ρ L m x k kept wrong vw wr ρ1 L1 mr) (hk : k < (m.wt (wx x)).length) : (kept ++ [(m.wt (wx x)).getD k 0]) ++ (m.wt (wx x)).drop (k + 1) = kept ++ (m.wt (wx x)).drop k := by
  rw [h.at' hk, List.append_assoc]; rfl
/-- The memory behind 'kept = append(kept, c)'. -/
theorem TeI.store (h : TeI w ρ L m x k kept wrong vw wr ρ1 L1 mr) (hk : k < (m.wt (wx x)).length) {g N sc : Nat} (e : L.wv (wx x) = .slice (some ⟨g, 0, none⟩) N sc) (i : Nat) (o : Obj) :
    MA ((wr.alloc o).setCell ⟨g, kept.length, none⟩ (.pointer (some ⟨L.cb i, 0, none⟩))) ρ1 L1 (putM m x kept i mr) ∧ Chr ρ1 wr ρ1 ((wr.alloc o).setCell ⟨g, kept.length, none⟩ (.pointer (some ⟨L.cb i, 0, none⟩))) ∧ (wr.cell? ⟨g, kept.length, none⟩).isSome = true ∧ wr.frozen? ⟨g, kept.length, none⟩ = false ∧ g < wr.heap.size := by
  have hle := h.le
  have hrl := h.rlen (Nat.le_of_lt hk)
  have hb : Below wr.heap.size wr (wr.alloc o) := (Below.refl _ _).alloc (Nat.le_refl _) _
  have e1 : L1.wv (wx x) = .slice (some ⟨g, 0, none⟩) N sc := h.wv.trans e
  have h1 := (h.ma.below hb).wset e1 kept.length i (by omega)
  have hg : ρ1 g = some (.w (wx x)) := (h.ma.at' (.w (wx x))).2 g (by rw [e1]; rfl)
  rw [show ptrC L1 i = .pointer (some ⟨L.cb i, 0, none⟩) by rw [h.lay.ptr]; rfl] at h1
  have hrow := h.ma.own_w (wx x)
  have hN : N = (mr.wt (wx x)).length := by
    obtain ⟨a', c', e', _⟩ := own_shape hrow
    rw [e1] at e'
    injection e' with _ h2 _
  rw [e1, ← hN] at hrow
  obtain ⟨hc1, hc2⟩ := own_cap hrow
  exact ⟨h1, (Chr.of_below hb).setCell hg _, own_isSome hrow (by omega), own_frozen hrow _, (h.ma.lt _ _ hg)⟩
/-- The clause stays in the list. -/
theorem TeI.put (h : TeI w ρ L m x k kept wrong vw wr ρ1 L1 mr) (hk : k < (m.wt (wx x)).length) {w2 : World} {vw2 : Value} {wrong2 : List Nat} (hC : Chr ρ w ρ1 w2) (hM : MA w2 ρ1 L1 (putM m x kept ((m.wt (wx x)).getD k 0) mr)) (hloc : LocR ρ1 w2 L vw2 wrong2) (hnew : ∀ b, vw2.ownBlock = some b → w.heap.size ≤ b)
    (hT : TI (hatM mr x (kept ++ (m.wt (wx x)).drop k)) x ((m.wt (wx x)).drop (k + 1)) wrong2) : TeI w ρ L m x (k + 1) (kept ++ [(m.wt (wx x)).getD k 0]) wrong2 vw2 w2 ρ1 L1 (putM m x kept ((m.wt (wx x)).getD k 0) mr) := by
  have hle := h.le
  refine { h with chr := hC, ma := hM, loc := hloc, new := hnew, raw := h.raw2 hk _, le := by rw [List.length_append]; simp; omega, ti := ?_, x := h.x.trans (McX.of rfl rfl rfl rfl rfl rfl rfl) }
  unfold putM
  rw [hat_hat, h.kept2 hk]
  exact hT
/-- An append to the row beside. -/
theorem loc_app {W w5 : World} {v5 : Value} {n : Nat} {i : Nat} (hM : MA W ρ1 L1 mr) (hC : Chr ρ w ρ1 W) (hl : LocR ρ1 W L vw wrong) (hnew : ∀ b, vw.ownBlock = some b → w.heap.size ≤ b) (hap : App 0 W w5 vw v5) (ho : w5.ownsRow 0 68 1 v5 n ((wrong ++ [i]).map (ptrC L))) :
    MA w5 ρ1 L1 mr ∧ Chr ρ w ρ1 w5 ∧ LocR ρ1 w5 L v5 (wrong ++ [i]) ∧ ∀ b, v5.ownBlock = some b → w.heap.size ≤ b := by
  have hn : n = (wrong ++ [i]).length := by have := ho.1; rw [List.length_map] at this; omega
  subst hn
  refine ⟨hM.same hap.below.size (fun b r hb => hap.other b (hM.lt b r hb) (fun e => ?_)), ⟨hap.below.os.trans hC.os, hap.below.tape.trans hC.tape, hap.below.output.trans hC.output, Nat.le_trans hC.size hap.below.size, fun b hb hr => (hap.other b (Nat.lt_of_lt_of_le hb hC.size) (fun e => ?_)).trans (hC.block b hb hr), hC.old⟩, ⟨ho, fun b hb => ?_⟩, fun b hb => ?_⟩
  · rw [hl.2 b e.symm] at hb; cases hb
  · have := hnew b e.symm; omega
  · rcases hap.blk with e | ⟨g, e, hg⟩
    · exact hl.2 b (e ▸ hb)
    · rw [e] at hb
      injection hb with hb
      cases hr : ρ1 b with
      | none => rfl
      | some r => have := hM.lt b r hr; omega
  · rcases hap.blk with e | ⟨g, e, hg⟩
    · exact hnew b (e ▸ hb)
    · rw [e] at hb
      injection hb with hb
      have := hC.size
      omega
theorem onlyM_wt (i : Nat) (a : Int) (o : Nat) : (onlyM mr i a o).wt = mr.wt ∧ (onlyM mr i a o).td = mr.td ∧ (onlyM mr i a o).told = mr.told := by
  obtain ⟨_, _, _, h1, h2, h3⟩ := onlyA_same (m := mr) i a
  unfold onlyM
  split <;> exact ⟨h1, h2, h3⟩
/-- The clause's last literal that is not false has been made true. -/
theorem TeI.only (h : TeI w ρ L m x k kept wrong vw wr ρ1 L1 mr) (hk : k < (m.wt (wx x)).length) {i : Nat} (hi : (m.wt (wx x)).getD k 0 = i) {a : Int} {r : List Int} (hc : mr.cl i = some (a :: x :: r)) (hv : valL mr.vs a ≠ 2) (hr : ∀ l ∈ r, -l ∈ mr.tr) {w2 w3 : World} {ρ3 : Nat → Option Rl} {tv lv : Value} (hC : Chr ρ1 wr ρ1 w2) (hC3 : Chr ρ1 w2 ρ3 w3)
    (hM : MA w3 ρ3 { L1 with trv := tv, lw := upd L1.lw (plc a) lv } (onlyM (putM m x kept i mr) i a (mr.lv (plc x)))) : TeI w ρ L m x (k + 1) (kept ++ [i]) wrong vw w3 ρ3 { L1 with trv := tv, lw := upd L1.lw (plc a) lv } (onlyM (putM m x kept i mr) i a (mr.lv (plc x))) := by
  have hle := h.le
  obtain ⟨e1, e2, e3⟩ := onlyM_wt (mr := putM m x kept i mr) i a (mr.lv (plc x))
  have hti := h.ti
  rw [h.at' hk, hi] at hti
  have hT := hti.only hc hv hr
  refine { chr := (h.chr.trans hC).trans hC3, lay := ⟨h.lay.p, h.lay.cb, h.lay.cv, h.lay.vb⟩, wv := h.wv, ma := hM, loc := (h.loc.keep hC).keep hC3, new := h.new, raw := by rw [e1]; exact h.raw2 hk i, le := by rw [List.length_append]; simp; omega, ti := ?_, x := ?_, td := e2.trans h.td, told := e3.trans h.told }
  · have hh : hatM (onlyM (putM m x kept i mr) i a (mr.lv (plc x))) x (kept ++ [i] ++ (m.wt (wx x)).drop (k + 1)) = onlyM (hatM mr x (kept ++ i :: (m.wt (wx x)).drop (k + 1))) i a (mr.lv (plc x)) := by
      rw [← onlyM_hat]
      unfold putM
      rw [hat_hat, List.append_assoc]; rfl
    rw [hh]
    exact hT
  · refine h.x.trans ?_
    have hw : McW (putM m x kept i mr) := by
      have := h.ti.w
      exact ⟨this.n, this.vl, this.vv, this.tv, this.one, this.told, this.sorted, this.lt, this.lvl, this.mps, this.cls, this.rs0, this.dec, this.rsn⟩
    have hm0 : McX mr (putM m x kept i mr) := McX.of rfl rfl rfl rfl rfl rfl rfl
    exact hm0.trans (McX.only hw (r := x :: r) hc hv)
/-- The clause is watched by another literal. -/
theorem TeI.rew (h : TeI w ρ L m x k kept wrong vw wr ρ1 L1 mr) (hk : k < (m.wt (wx x)).length) {i : Nat} (hi : (m.wt (wx x)).getD k 0 = i) {a : Int} {r : List Int} (hc : mr.cl i = some (a :: x :: r)) {w3 : World} (hR : RewR wr ρ1 L1 mr i (a :: x :: r) true w3) : ∃ ρ3 L3 mr3, TeI w ρ L m x (k + 1) kept wrong vw w3 ρ3 L3 mr3 := by
  rcases hR with ⟨e, _⟩ | ⟨_, j, hj, hjl, hv, ρ3, hC, v, hM⟩
  · cases e
  have hle := h.le
  have hti := h.ti
  rw [h.at' hk, hi] at hti
  have hnd : (kept ++ i :: (m.wt (wx x)).drop (k + 1)).Nodup := by
    have := hti.l.wtN (wx x)
    have e : (hatM mr x (kept ++ i :: (m.wt (wx x)).drop (k + 1))).wt (wx x) = kept ++ i :: (m.wt (wx x)).drop (k + 1) := upd_same _ _ _
    rwa [e] at this
  have hmem : ∀ y, y ∈ kept ++ (m.wt (wx x)).drop (k + 1) ↔ y ∈ (hatM mr x (kept ++ i :: (m.wt (wx x)).drop (k + 1))).wt (wx x) ∧ y ≠ i := fun y => by
    have e : (hatM mr x (kept ++ i :: (m.wt (wx x)).drop (k + 1))).wt (wx x) = kept ++ i :: (m.wt (wx x)).drop (k + 1) := upd_same _ _ _
    rw [e]
    rw [List.nodup_append] at hnd
    obtain ⟨_, n2, n3⟩ := hnd
    rw [List.nodup_cons] at n2
    simp only [List.mem_append, List.mem_cons]
    constructor
    · rintro (hy | hy)
      · exact ⟨.inl hy, fun e => n3 y hy i (by simp) e⟩
      · exact ⟨.inr (.inr hy), fun e => n2.1 (e ▸ hy)⟩
    · rintro ⟨hy | hy | hy, hne⟩
      · exact .inl hy
      · exact absurd hy hne
      · exact .inr hy
  have hnd2 : (kept ++ (m.wt (wx x)).drop (k + 1)).Nodup := hnd.sublist (List.Sublist.append (List.Sublist.refl _) (List.sublist_cons_self _ _))
  have hT := hti.rew hc hj hjl hv hmem hnd2
  have hyx : (a :: x :: r).getD j 0 ≠ x := fun e => by
    have hnd3 := (h.ti.w.cls i _ hc).2.1
    have h1 := List.pairwise_iff_getElem.1 hnd3 1 j (by simp) hjl (by omega)
    have h2 : (a :: x :: r)[j] = x := by
      rw [List.getD, List.getElem?_eq_getElem hjl] at e
      exact e
    exact h1 (by rw [h2]; rfl)
  generalize (a :: x :: r).getD j 0 = y at *
  have wne : wx x ≠ wx y := fun e => hyx (wx_inj e).symm
  refine ⟨ρ3, { L1 with wv := upd L1.wv (wx y) v }, wat (putCl mr i (swapL (a :: x :: r) 1 j)) i y, { chr := h.chr.trans hC, lay := ⟨h.lay.p, h.lay.cb, h.lay.cv, h.lay.vb⟩, wv := ?_, ma := hM, loc := h.loc.keep hC, new := h.new, raw := ?_, le := by omega, ti := ?_, x := h.x.trans ((McX.putCl hc (swapL_perm _ (a := 1) (b := j) (by simp) hjl)).trans (McX.of rfl rfl rfl rfl rfl rfl rfl)), td := h.td, told := h.told }⟩
  · exact (upd_ne _ _ wne).trans h.wv
  · show upd mr.wt (wx y) _ (wx x) = _
    rw [upd_ne _ _ wne]; exact h.raw
  · have e : hatM (wat (putCl mr i (swapL (a :: x :: r) 1 j)) i y) x (kept ++ (m.wt (wx x)).drop (k + 1)) = { putCl (hatM mr x (kept ++ i :: (m.wt (wx x)).drop (k + 1))) i (swapL (a :: x :: r) 1 j) with wt := upd (upd (hatM mr x (kept ++ i :: (m.wt (wx x)).drop (k + 1))).wt (wx x) (kept ++ (m.wt (wx x)).drop (k + 1))) (wx y) ((hatM mr x (kept ++ i :: (m.wt (wx x)).drop (k + 1))).wt (wx y) ++ [i]) } := by
      unfold hatM wat putCl
      have : upd (upd mr.wt (wx y) (mr.wt (wx y) ++ [i])) (wx x) (kept ++ (m.wt (wx x)).drop (k + 1)) = upd (upd (upd mr.wt (wx x) (kept ++ i :: (m.wt (wx x)).drop (k + 1))) (wx x) (kept ++ (m.wt (wx x)).drop (k + 1))) (wx y) (upd mr.wt (wx x) (kept ++ i :: (m.wt (wx x)).drop (k + 1)) (wx y) ++ [i]) := by
        funext q
        rw [upd_ne mr.wt _ (Ne.symm wne)]
        unfold upd
        by_cases e1 : q = wx x
        · rw [if_pos e1, e1, if_neg wne, if_pos rfl]
        · rw [if_neg e1]
          by_cases e2 : q = wx y
          · rw [if_pos e2, if_pos e2]
          · rw [if_neg e2, if_neg e2, if_neg e1, if_neg e1]
      simp only [this]
    rw [e]
    exact hT

/-- The end: the list is cut to those that stayed, and the wrong ones are to be looked at. -/
theorem TeI.cut (h : TeI w ρ L m x k kept wrong vw wr ρ1 L1 mr) (hk : k = (m.wt (wx x)).length) {W2 : World} {sa : Option Addr} {sc : Nat} (hP : Part W2 ρ1 L1 mr (.w (wx x))) (hC : Chr ρ1 wr ρ1 W2) (hr : W2.ownsRow 0 68 1 (.slice sa kept.length sc) kept.length (kept.map (ptrC L1))) (hb : ∀ b, (Value.slice sa kept.length sc).ownBlock = some b → ρ1 b = some (.w (wx x))) (hnx : m.nx ≤ 1000000) :
    W2.cell? ⟨L.vb, wx x / 2 * 5 + (2 + wx x % 2), none⟩ = some (L1.wv (wx x)) ∧ W2.frozen? ⟨L.vb, wx x / 2 * 5 + (2 + wx x % 2), none⟩ = false ∧
    Calls Try.prog 43 #[ptrP L, vw] (W2.setCell ⟨L.vb, wx x / 2 * 5 + (2 + wx x % 2), none⟩ (.slice sa kept.length sc)) fun e w' => e = .returned (.tuple #[]) ∧ TellR w ρ L m vw wrong w' := by
  have hT := h.ti
  rw [hk, List.drop_length, List.append_nil] at hT
  have hj : wx x / 2 ≤ mr.n := by
    rw [wx_half]
    have := (hT.w.rgt hT.neg).2
    rwa [plc_ng] at this
  have hv := hP.at' .v (by nofun)
  have hM : MA (W2.setCell ⟨L1.vb, wx x / 2 * 5 + (2 + wx x % 2), none⟩ (.slice sa kept.length sc)) ρ1 { L1 with wv := upd L1.wv (wx x) (.slice sa kept.length sc) } (hatM mr x kept) := hP.setW hj ⟨by rw [List.length_map]; exact hr, hb⟩
  have hC3 : Chr ρ1 wr ρ1 (W2.setCell ⟨L1.vb, wx x / 2 * 5 + (2 + wx x % 2), none⟩ (.slice sa kept.length sc)) := hC.setCell hv.1 _
  rw [h.lay.vb] at hM hC3
  have e1 : (hatM mr x kept).nx = m.nx := h.x.nx
  have hL := lst_of hT.w hT.l (by rw [e1]; exact hnx)
  have hln := lst_len hT.w hT.l
  have hloc : LocR ρ1 (W2.setCell ⟨L.vb, wx x / 2 * 5 + (2 + wx x % 2), none⟩ (.slice sa kept.length sc)) { L1 with vb := L.vb, wv := upd L1.wv (wx x) (.slice sa kept.length sc) } vw wrong := ((h.loc.keep hC3).lay h.lay).lay ⟨rfl, rfl, rfl, h.lay.vb.symm⟩
  have hwl : wrong.length ≤ 1000000 := by
    have := pig (N := m.nx) hT.wn (fun y hy => by
      obtain ⟨_, _, c, hc, _⟩ := hT.win y hy
      have := (hT.w.cls y c hc).1
      omega)
    omega
  refine ⟨?_, ?_, ?_⟩
  · have := own_cell hv.2 (vcells_get L1 mr (v := wx x / 2) (k := 2 + wx x % 2) hj (by omega))
    rw [h.lay.vb] at this
    rw [this]
    rcases (show wx x % 2 = 0 ∨ wx x % 2 = 1 by omega) with e | e
    · rw [e]; show some (L1.wv (2 * (wx x / 2))) = _; rw [show 2 * (wx x / 2) = wx x by omega]
    · rw [e]; show some (L1.wv (2 * (wx x / 2) + 1)) = _; rw [show 2 * (wx x / 2) + 1 = wx x by omega]
  · have := own_frozen hv.2 (wx x / 2 * 5 + (2 + wx x % 2))
    rw [h.lay.vb] at this
    exact this
  · have hlo := mloo_any hM vw wrong hloc (fun y hy => by obtain ⟨_, _, c, hc, _⟩ := hT.win y hy; exact ⟨c, hc⟩) (fun y c hc => hT.w.cl_lit hc) hT.w.n hL (by omega) (by have := hln.2.2; omega)
    unfold ptrP at hlo ⊢
    rw [show ({ L1 with vb := L.vb, wv := upd L1.wv (wx x) (.slice sa kept.length sc) } : Lay).p = L.p from h.lay.p] at hlo
    refine hlo.mono ?_
    rintro e w' ⟨he, ρ4, hC4, L4, hE4, hM4⟩
    refine ⟨he, ρ4, L4, _, (h.chr.trans hC3).trans hC4, ⟨hE4.p, hE4.cb.trans h.lay.cb, hE4.cv.trans h.lay.cv, hE4.vb⟩, hM4, hT.done, (h.x.trans (McX.of (m' := hatM mr x kept) rfl rfl rfl rfl rfl rfl rfl)).trans (looM_x hT), (h.loc.keep hC3).keep hC4, ?_, ?_, fun y hy => ?_⟩
    · show mr.td ++ wrong = _; rw [h.td]
    · have : (looM (hatM mr x kept) wrong).told = (hatM mr x kept).told := by
        rw [looM_eq hT.l (fun y hy => (hT.win y hy).1) (fun y hy => by obtain ⟨_, _, c, hc, _⟩ := hT.win y hy; exact ⟨c, hc⟩)]
      rw [this]; exact h.told
    · obtain ⟨_, _, c, hc, hf⟩ := hT.win y hy
      refine ⟨c, ?_, fun l hl => ?_⟩
      · exact (congrFun (unwA_keep wrong (hatM mr x kept)).1 y).trans hc
      · rw [looM_eq hT.l (fun y hy => (hT.win y hy).1) (fun y hy => by obtain ⟨_, _, c, hc, _⟩ := hT.win y hy; exact ⟨c, hc⟩)]
        exact hf l hl

theorem TeI.bds (h : TeI w ρ L m x k kept wrong vw wr ρ1 L1 mr) (hk : k < (m.wt (wx x)).length) (hN : (m.wt (wx x)).length ≤ 1000000) (hnx : m.nx ≤ 1000000) : (∀ j, (mr.wt j).length ≤ 1000000000) ∧ (∀ j, (mr.lt j).length ≤ 1000000000) ∧ mr.tr.length ≤ 4000 ∧ mr.st.length ≤ 4000 := by
  have hw := h.ti.w
  obtain ⟨l1, l2, _⟩ := lst_len h.ti.w h.ti.l
  have e : (hatM mr x (kept ++ (m.wt (wx x)).drop k)).nx = m.nx := h.x.nx
  rw [e] at l1 l2
  have h1 := hw.tr_len
  have h2 := hw.st_len
  have h3 := hw.n
  refine ⟨fun j => ?_, fun j => Nat.le_trans (l2 j) (by omega), by show mr.tr.length ≤ _; have : mr.tr.length ≤ mr.n := h1; have : mr.n ≤ 4000 := h3; omega, by have : mr.st.length ≤ mr.n := h2; have : mr.n ≤ 4000 := h3; omega⟩
  by_cases ej : j = wx x
  · rw [ej, h.rlen (Nat.le_of_lt hk)]; omega
  · have := l1 j
    have e2 : (hatM mr x (kept ++ (m.wt (wx x)).drop k)).wt j = mr.wt j := upd_ne _ _ ej
    rw [e2] at this
    omega

set_option maxRecDepth 8000 in
set_option maxHeartbeats 16000000 in
theorem mtell_any (h : MA w ρ L m) (hT : TI m x (m.wt (wx x)) []) (hnx : m.nx ≤ 1000000) :
    Calls Try.prog 46 #[ptrP L, .int .i64 x] w fun e w' => ∃ v wrong, e = .returned v ∧ TellR w ρ L m v wrong w' := by
  have hn := hT.w.n
  have hpx : plc x ≤ m.n := by have := (hT.w.rgt hT.neg).2; rwa [plc_ng] at this
  obtain ⟨hx1, hx2⟩ := lit_bd hpx hn
  have HW := Lib.hid (mwat_any h x hpx hn)
  have HS0 := Lib.hid (fun t => (TeI.start h hT).drewN t)
  have hN0 := (lst_len hT.w hT.l).1 (wx x)
  obtain ⟨sa, sc, hsh, hs1, hs2⟩ := own_shape (h.own_w (wx x))
  have HSH := Lib.hid hsh
  have HA := Lib.hid h
  have HT := Lib.hid hT
  have hj : wx x / 2 ≤ m.n := by rw [wx_half]; exact hpx
  have HC3 : Hid (∀ t, (w.drewN t).cell? ⟨L.vb, wx x / 2 * 5 + (2 + wx x % 2), none⟩ = some (L.wv (wx x))) := fun t => by
    obtain ⟨_, _, _, h3, _⟩ := (h.drewN t).wApp hj (App.refl _) ((h.drewN t).own_w (wx x))
    exact h3
  rw [hsh] at HC3
  have HJ := Lib.hid hj
  unfold maxLen at hs2
  clear h hT hj hsh
  unfold ptrP at *
  obtain ⟨N, hN⟩ : ∃ N, (m.wt (wx x)).length = N := ⟨_, rfl⟩
  rw [hN] at hs1 HC3 HSH hN0
  have HN := Lib.hid hN
  have hNb : N ≤ 1000000 := by omega
  clear hN hN0
  go_enter Try.func46, Try.ntmps46
  go_wp2_with fail
  refine HW.out.mono ?_
  rintro e w1 ⟨rfl, t0, rfl⟩
  rw [← wx_cell]
  have c3 := HC3.out t0
  have HS := Lib.hid (HS0.out t0)
  clear HW HS0
  generalize hX : wx x / 2 * 5 + (2 + wx x % 2) = X at *
  have HX := Lib.hid hX
  clear hX
  go_wp2_with fail
  go_loopw [5, 7, 9, 10, 22] (fun u5 u7 _ _ u22 wr => ∃ (k : Nat) (kept wrong : List Nat) (ρ1 : Nat → Option Rl) (L1 : Lay) (mr : Mc), k ≤ N ∧ u22 = .int .i64 (k : Int) ∧ u7 = .slice sa kept.length sc ∧ TeI w ρ L m x k kept wrong u5 wr ρ1 L1 mr) (fun _ _ _ _ u22 _ => N - (intOf u22).toNat)
  case atStart => exact ⟨0, [], [], ρ, L, m, Nat.zero_le _, rfl, rfl, HS.out⟩
  case round =>
    obtain ⟨k, kept, wrong, ρ1, L1, mr, hk1, rfl, rfl, hI⟩ := hrel
    have HI := Lib.hid hI
    by_cases hk : k < N
    · have hkm : k < (m.wt (wx x)).length := by rw [HN.out]; exact hk
      obtain ⟨i, hi⟩ : ∃ i, (m.wt (wx x)).getD k 0 = i := ⟨_, rfl⟩
      have HI0 := Lib.hid hi
      have hir : i ∈ (m.wt (wx x)).drop k := by rw [hI.at' hkm, hi]; simp
      have HIR := Lib.hid hir
      have hwv := hI.wv
      rw [HSH.out] at hwv
      have hrow := hI.ma.own_w (wx x)
      obtain ⟨g, cap, e⟩ := own_at hrow (by rw [hI.rlen (Nat.le_of_lt hkm)]; omega)
      rw [hwv] at e
      injection e with e1 e2 e3
      clear e2
      subst e1; subst e3
      rw [hwv] at hrow
      have hrl := hI.rlen (Nat.le_of_lt hkm)
      rw [HN.out] at hrl
      rw [hrl] at hrow
      have x0 := own_cell hrow (i := k) (u := ptrC L1 i) (by rw [List.getElem?_map, hI.elem hkm, hi]; rfl)
      rw [hI.lay.ptr, show ptrC L i = .pointer (some ⟨L.cb i, 0, none⟩) from rfl] at x0
      obtain ⟨n1, n2, hcase⟩ := hI.ti.head hir
      have HCASE : Hid ((∃ b r, mr.cl i = some (x :: b :: r)) ∨ ∃ a r, mr.cl i = some (a :: x :: r)) := hcase
      clear hi hir hwv hrow hrl n1 n2 hcase hI hkm
      obtain ⟨y0, hcl0⟩ : ∃ c, mr.cl i = some c ∧ 2 ≤ c.length := by
        rcases HCASE.out with ⟨b, r, h⟩ | ⟨a, r, h⟩
        · exact ⟨_, h, by simp⟩
        · exact ⟨_, h, by simp⟩
      obtain ⟨g2, kc, e2, _, hcell, _, hcap, hmax⟩ := HI.out.ma.lits hcl0.1 (by omega)
      have q1 := (HI.out.ma.cells hcl0.1).2
      rw [HI.out.lay.cb, e2] at q1
      unfold maxLen at hmax
      have q2 := hcell 0 (y0.getD 0 0) (by simp [List.getD, show 0 < y0.length by omega])
      have HCL0 := Lib.hid hcl0
      have hyl : 2 ≤ y0.length := hcl0.2
      have hyl2 : y0.length ≤ 9223372036854775807 := by omega
      clear hcell e2 hcl0 hcap hmax
      generalize hY : y0.length = Y at *
      have HY := Lib.hid hY
      clear hY
      generalize hz : y0.getD 0 0 = z at *
      have HZ := Lib.hid hz
      clear hz
      go_upto_if 33 with fail
      go_cut [33] (fun b W => (∃ b', b = .bool b') ∧ ∃ mr' a r, TeI w ρ L m x k kept wrong u5 W ρ1 L1 mr' ∧ mr'.cl i = some (a :: x :: r))
      case first =>
        by_cases hz : z = x
        · have HSW : Hid (Calls Try.prog 71 #[.pointer (some ⟨L.cb i, 0, none⟩), .int .i64 0, .int .i64 1] wr fun e w' => e = .returned (.tuple #[]) ∧ ∃ mr' a r, TeI w ρ L m x k kept wrong u5 w' ρ1 L1 mr' ∧ mr'.cl i = some (a :: x :: r)) := by
            have hcl : ∃ b r, mr.cl i = some (x :: b :: r) := by
              rcases HCASE.out with h | ⟨a, r, h⟩
              · exact h
              · exfalso
                have h2 := HCL0.out.1
                rw [h] at h2
                injection h2 with h2
                have h3 := HZ.out
                rw [← h2] at h3
                have hne := (HI.out.ti.w.clsne (a := a) (b := x) (r := r) h).1
                exact hne (by rw [← hz, ← h3]; rfl)
            obtain ⟨b, r, hc⟩ := hcl
            have h1 := mswap_any HI.out.ma i (x :: b :: r) 0 1 hc (by simp) (by simp) (by omega)
            rw [HI.out.lay.ptr] at h1
            refine h1.mono ?_
            rintro e w' ⟨he, hC, hM⟩
            have e2 : swapL (x :: b :: r) 0 1 = b :: x :: r := by simp [swapL, List.getD]
            rw [e2] at hM
            exact ⟨he, _, b, r, HI.out.swap HIR.out hc hC hM, putCl_cl _ _ _⟩
          clear hyl hyl2
          subst hz
          go_wp2_with fail
          refine HSW.out.mono ?_
          rintro e w2 ⟨rfl, hR⟩
          have HR := Lib.hid hR
          clear hR
          go_wp2_with fail
          go_meet
          exact ⟨⟨_, rfl⟩, HR.out⟩
        · have hzb : (z == x) = false := beq_eq_false_iff_ne.2 hz
          have HR : Hid (∃ mr' a r, TeI w ρ L m x k kept wrong u5 wr ρ1 L1 mr' ∧ mr'.cl i = some (a :: x :: r)) := by
            rcases HCASE.out with ⟨b, r, h⟩ | ⟨a, r, h⟩
            · exfalso
              have h2 := HCL0.out.1
              rw [h] at h2
              injection h2 with h2
              have h3 := HZ.out
              rw [← h2] at h3
              exact hz h3.symm
            · exact ⟨mr, a, r, HI.out, h⟩
          clear hz
          go_wp2_with fail
          go_meet
          exact ⟨⟨_, rfl⟩, HR.out⟩
      case rest =>
        obtain ⟨⟨b0, rfl⟩, mr2, a, r, hI2, hc2⟩ := hcut
        clear HI HCASE HCL0 HY HZ q1 q2 x0
        have HI2 := Lib.hid hI2
        have HC2 := Lib.hid hc2
        have hla : plc a ≤ mr2.n := (hI2.ti.w.cl_lit (m := hatM mr2 x _) hc2).1 a (by simp)
        have hxn : plc x ≤ mr2.n := (hI2.ti.w.cl_lit (m := hatM mr2 x _) hc2).1 x (by simp)
        have hn2 : mr2.n ≤ 4000 := hI2.ti.w.n
        obtain ⟨ha1, ha2⟩ := lit_bd hla hn2
        obtain ⟨g3, kc3, e3, _, hcell3, _, hcap3, hmax3⟩ := hI2.ma.lits hc2 (by simp)
        have q1 := (hI2.ma.cells hc2).2
        rw [hI2.lay.cb, e3] at q1
        have q2 := hcell3 0 a rfl
        unfold maxLen at hmax3
        have hlen : (a :: x :: r).length = r.length + 2 := rfl
        rw [hlen] at q1 hcap3
        have hrb : r.length + 2 ≤ 9223372036854775807 := by omega
        have HV := Lib.hid (mval_any hI2.ma a (by omega) (by omega))
        unfold ptrP at HV
        rw [hI2.lay.p] at HV
        have HOA := Lib.hid (fun t => mof_any (hI2.ma.drewN t) a hla hn2)
        have HOX := Lib.hid (fun t => mof_any (hI2.ma.drewN t) x hxn hn2)
        unfold ptrP at HOA HOX
        rw [hI2.lay.p] at HOA HOX
        have g0 := hI2.ma.var (v := plc a) (k := 0) hla (by omega)
        have g1 := hI2.ma.var (v := plc x) (k := 0) hxn (by omega)
        rw [Nat.add_zero, show vcell L1 mr2 (plc a) 0 = .int .i64 (mr2.lv (plc a) : Int) from rfl] at g0
        rw [Nat.add_zero, show vcell L1 mr2 (plc x) 0 = .int .i64 (mr2.lv (plc x) : Int) from rfl] at g1
        clear hI2 hc2 e3 hcell3 hcap3 hmax3 hlen
        obtain ⟨va, hva⟩ : ∃ v, valL mr2.vs a = v := ⟨_, rfl⟩
        rw [hva] at HV
        have HVA := Lib.hid hva
        clear hva
        generalize hya : mr2.lv (plc a) = ya at *
        have HYA := Lib.hid hya
        clear hya
        generalize hyx : mr2.lv (plc x) = yx at *
        have HYX := Lib.hid hyx
        clear hyx
        generalize hRL : r.length = RL at *
        have HRL := Lib.hid hRL
        clear hRL
        go_wp2_with fail
        refine HV.out.mono ?_
        rintro e w3 ⟨rfl, rfl⟩
        go_wp2_with fail
        go_cut [65] (fun b W => b = .bool (decide (va = 1) && decide (ya ≤ yx)) ∧ ∃ t, W = wc.drewN t)
        case first =>
          by_cases h1 : va = 1
          · have hb1 : (va == 1) = true := beq_iff_eq.2 h1
            have HD : Hid (decide (va = 1) = true) := decide_eq_true h1
            clear h1
            go_quiet (first | (go_at_call_of 42 (Value.int IntKind.i64 a); refine Calls.quiet_of (HOA.out _)) | (refine Calls.quiet_of (HOX.out _)))
            go_wp2_with fail
            go_meet
            exact ⟨by rw [HD.out]; simp, _, rfl⟩
          · have hb1 : (va == 1) = false := beq_eq_false_iff_ne.2 h1
            have HD : Hid (decide (va = 1) = false) := decide_eq_false h1
            clear h1
            go_quiet (fail)
            go_wp2_with fail
            go_meet
            exact ⟨by rw [HD.out]; simp, _, rfl⟩
        case rest =>
          obtain ⟨rfl, t, rfl⟩ := hcut
          have HI3 := Lib.hid (HI2.out.drewN t)
          have hkm : k < (m.wt (wx x)).length := by rw [HN.out]; exact hk
          have HKM := Lib.hid hkm
          have hle := HI2.out.le
          obtain ⟨hM4, hC4, hs4, hf4, hg4⟩ := HI3.out.store hkm HSH.out i (.cells #[.pointer (some ⟨L.cb i, 0, none⟩)] 68)
          have HM4 := Lib.hid hM4
          have HC4 := Lib.hid hC4
          have HS4 := Lib.hid hs4
          have HF4 := Lib.hid hf4
          have hkc : kept.length + 1 ≤ sc := by omega
          have HKL : Hid ((kept ++ [i]).length = kept.length + 1) := by unfold Hid; rw [List.length_append]; rfl
          clear HV HOA HOX g0 g1 hkm hle hM4 hC4 hs4 hf4 HI2
          cases hB : decide (va = 1) && decide (ya ≤ yx) with
          | true =>
            have HB := Lib.hid hB
            have HR : Hid (TeI w ρ L m x (k + 1) (kept ++ [i]) wrong u5 (((wc.drewN t).alloc (.cells #[.pointer (some ⟨L.cb i, 0, none⟩)] 68)).setCell ⟨g, kept.length, none⟩ (.pointer (some ⟨L.cb i, 0, none⟩))) ρ1 L1 (putM m x kept i mr2)) := by
              have hb := HB.out
              rw [Bool.and_eq_true, decide_eq_true_eq, decide_eq_true_eq] at hb
              have h0 := HI3.out.ti
              rw [HI3.out.at' HKM.out] at h0
              have hi0 := HI0.out
              have hT := h0.keep (i := (m.wt (wx x)).getD k 0) (a := a) (r := r) (by rw [hi0]; exact HC2.out) ((HI3.out.ti.w.tv a).1 (by rw [← hb.1]; exact HVA.out)) (by show mr2.lv (plc a) ≤ mr2.lv (plc x); rw [HYA.out, HYX.out]; exact hb.2)
              have h2 := HI3.out.put HKM.out (HI3.out.chr.trans HC4.out) (by rw [hi0]; exact HM4.out) (HI3.out.loc.keep HC4.out) HI3.out.new (by rw [HI3.out.at' HKM.out]; exact hT)
              rw [hi0] at h2
              exact h2
            clear hB
            go_wp2_with (at_builtin; refine wpList_appIn 65 68 (.pointer none) 8 Try.underlying65 infoPc rfl _ _ rfl _ g kept.length sc (.pointer (some ⟨L.cb i, 0, none⟩)) rfl hkc hg4 HS4.out HF4.out _ (by simp) rfl rfl ?_)
            go_roundw
            case rel => exact ⟨k + 1, kept ++ [i], wrong, ρ1, L1, _, by omega, by go_num, by rw [HKL.out], HR.out⟩
            case measure => go_light; simp [intOf]; omega
          | false =>
            have hbd := HI3.out.bds HKM.out (by rw [HN.out]; exact hNb) hnx
            have HBD := Lib.hid hbd
            have hcl2 : (hatM mr2 x (kept ++ (m.wt (wx x)).drop k)).cl i = some (a :: x :: r) := HC2.out
            have HLI := Lib.hid (HI3.out.ti.w.cl_lit hcl2)
            have HON := Lib.hid (HI3.out.ti.w.cl_one hcl2)
            have HRW := Lib.hid (mrew_any HI3.out.ma i (a :: x :: r) HC2.out HLI.out.1 hn2 HLI.out.2 (by simp) hbd.1)
            unfold ptrP at HRW
            rw [HI3.out.lay.p, HI3.out.lay.ptr, show ptrC L i = .pointer (some ⟨L.cb i, 0, none⟩) from rfl] at HRW
            clear hB hbd hcl2
            go_wp2_with fail
            refine HRW.out.mono ?_
            rintro e w5 ⟨b, rfl, hR⟩
            cases b with
            | true =>
              obtain ⟨ρ3, L3, mr3, hI4⟩ := HI3.out.rew HKM.out HI0.out HC2.out hR
              have HI4 := Lib.hid hI4
              clear hI4 hR
              go_wp2_with fail
              go_roundw
              case rel => exact ⟨k + 1, kept, wrong, ρ3, L3, mr3, by omega, by go_num, rfl, HI4.out⟩
              case measure => go_light; simp [intOf]; omega
            | false =>
              have hR2 : w5 = wc.drewN t ∧ ∀ j, 2 ≤ j → j < (a :: x :: r).length → valL mr2.vs ((a :: x :: r).getD j 0) = 2 := by
                rcases hR with ⟨_, h1, h2⟩ | ⟨h1, _⟩
                · exact ⟨h1, h2⟩
                · cases h1
              obtain ⟨rfl, hf⟩ := hR2
              have hfr : ∀ l ∈ r, -l ∈ mr2.tr := fun l hl => by
                obtain ⟨q, hq, rfl⟩ := mem_of_getD hl
                have := hf (q + 2) (by omega) (by simp; omega)
                have e : (a :: x :: r).getD (q + 2) 0 = r.getD q 0 := by simp [List.getD]
                rw [e] at this
                exact (HI3.out.ti.w.vf _).1 this
              have HFR := Lib.hid hfr
              clear hR hf hfr HRW
              by_cases h2 : va = 2
              · subst h2
                have hloc4 := HI3.out.loc.keep HC4.out
                have HLOC4 := Lib.hid hloc4
                have HT4 : Hid (TI (hatM mr2 x (kept ++ (m.wt (wx x)).drop k)) x ((m.wt (wx x)).drop (k + 1)) (wrong ++ [i])) := by
                  have h0 := HI3.out.ti
                  rw [HI3.out.at' HKM.out, HI0.out] at h0
                  rw [HI3.out.at' HKM.out, HI0.out]
                  refine h0.bad (c := a :: x :: r) HC2.out fun l hl => ?_
                  rcases List.mem_cons.1 hl with rfl | hl
                  · exact (HI3.out.ti.w.vf _).1 HVA.out
                  · rcases List.mem_cons.1 hl with rfl | hl
                    · exact HI3.out.ti.neg
                    · exact HFR.out l hl
                have hwl : wrong.length ≤ 1000000 := by
                  have := pig (N := m.nx) HI3.out.ti.wn (fun y hy => by
                    obtain ⟨_, _, c, hc, _⟩ := HI3.out.ti.win y hy
                    have := (HI3.out.ti.w.cls y c hc).1
                    have e : (hatM mr2 x (kept ++ (m.wt (wx x)).drop k)).nx = m.nx := HI3.out.x.nx
                    omega)
                  omega
                have HFIN : Hid (∀ w6 v6, App 0 (((wc.drewN t).alloc (.cells #[.pointer (some ⟨L.cb i, 0, none⟩)] 68)).setCell ⟨g, kept.length, none⟩ (.pointer (some ⟨L.cb i, 0, none⟩))) w6 u5 v6 → w6.ownsRow 0 68 1 v6 (wrong.length + 1) (wrong.map (ptrC L) ++ [.pointer (some ⟨L.cb i, 0, none⟩)]) → TeI w ρ L m x (k + 1) (kept ++ [i]) (wrong ++ [i]) v6 w6 ρ1 L1 (putM m x kept i mr2)) := fun w6 v6 hap ho => by
                  rw [show wrong.map (ptrC L) ++ [Value.pointer (some ⟨L.cb i, 0, none⟩)] = (wrong ++ [i]).map (ptrC L) by simp [ptrC]] at ho
                  obtain ⟨a1, a2, a3, a4⟩ := loc_app HM4.out (HI3.out.chr.trans HC4.out) HLOC4.out HI3.out.new hap ho
                  have hi0 := HI0.out
                  have h5 := HI3.out.put HKM.out a2 (by rw [hi0]; exact a1) a3 a4 HT4.out
                  rw [hi0] at h5
                  exact h5
                clear hloc4
                go_wp2_with (first
                  | (at_builtin; refine wpList_appIn 65 68 (.pointer none) 8 Try.underlying65 infoPc rfl _ _ rfl _ g kept.length sc (.pointer (some ⟨L.cb i, 0, none⟩)) rfl hkc hg4 HS4.out HF4.out _ (by simp) rfl rfl ?_)
                  | (at_builtin; refine wpList_appV 65 68 (.pointer none) 8 Try.underlying65 infoPc rfl (by decide) rfl _ _ rfl (((wc.drewN t).alloc (.cells #[.pointer (some ⟨L.cb i, 0, none⟩)] 68)).setCell ⟨g, kept.length, none⟩ (.pointer (some ⟨L.cb i, 0, none⟩))) 0 u5 wrong.length (wrong.map (ptrC L)) (.pointer (some ⟨L.cb i, 0, none⟩)) rfl HLOC4.out.1 (Nat.zero_le _) (by omega) _ (by simp [World.setCell]) rfl rfl ?_; intro v6 w6 hown6 hap6; have HI5 := Lib.hid (HFIN.out w6 v6 hap6 hown6); clear hown6 hap6))
                go_roundw
                case rel => exact ⟨k + 1, kept ++ [i], wrong ++ [i], ρ1, L1, _, by omega, by go_num, by rw [HKL.out], HI5.out⟩
                case measure => go_light; simp [intOf]; omega
              · have hb2 : (va == 2) = false := beq_eq_false_iff_ne.2 h2
                have HV2 := Lib.hid h2
                have HO := Lib.hid (monly_any HM4.out i a (x :: r) HC2.out HLI.out.1 (fun y hy e => (List.rel_of_pairwise_cons HON.out hy) e.symm) hn2 HBD.out.2.2.1 HBD.out.2.2.2 (HBD.out.2.1 _))
                unfold ptrP at HO
                rw [HI3.out.lay.p, HI3.out.lay.ptr, show ptrC L i = .pointer (some ⟨L.cb i, 0, none⟩) from rfl] at HO
                clear h2
                go_wp2_with (at_builtin; refine wpList_appIn 65 68 (.pointer none) 8 Try.underlying65 infoPc rfl _ _ rfl _ g kept.length sc (.pointer (some ⟨L.cb i, 0, none⟩)) rfl hkc hg4 HS4.out HF4.out _ (by simp) rfl rfl ?_)
                refine HO.out.mono ?_
                rintro e w6 ⟨rfl, ρ6, hC6, tv, lv, hM6⟩
                rw [← HI3.out.lay.p] at hM6
                have HI5 := Lib.hid (HI3.out.only HKM.out HI0.out HC2.out (by rw [HVA.out]; exact HV2.out) HFR.out HC4.out hC6 hM6)
                clear hC6 hM6
                go_wp2_with fail
                go_roundw
                case rel => exact ⟨k + 1, kept ++ [i], wrong, ρ6, _, _, by omega, by go_num, by rw [HKL.out], HI5.out⟩
                case measure => go_light; simp [intOf]; omega
    · have hkN : k = N := by omega
      subst hkN
      have hd : ¬ k < k := Nat.lt_irrefl k
      have hrow := hI.ma.own_w (wx x)
      have hwv := hI.wv
      rw [HSH.out] at hwv
      have hrl := hI.rlen (by rw [HN.out]; exact Nat.le_refl _)
      rw [HN.out] at hrl
      rw [hwv, hrl] at hrow
      have hle := hI.le
      have hrawk : mr.wt (wx x) = kept ++ (m.wt (wx x)).drop kept.length := hI.raw
      have hmap : (mr.wt (wx x)).map (ptrC L1) = kept.map (ptrC L1) ++ ((m.wt (wx x)).drop kept.length).map (ptrC L1) := by rw [hrawk, List.map_append]
      rw [hmap] at hrow
      have hrg : ∀ b, (Value.slice sa k sc).ownBlock = some b → ρ1 b = some (.w (wx x)) := fun b hb => (hI.ma.at' (.w (wx x))).2 b (by rw [hwv]; exact hb)
      have hjm : wx x / 2 ≤ mr.n := by rw [hI.x.n]; exact HJ.out
      have c5 : wr.cell? ⟨L1.vb, wx x / 2 * 5 + (2 + wx x % 2), none⟩ = some (.slice sa k sc) := by
        obtain ⟨_, _, _, h3, _⟩ := hI.ma.wApp hjm (App.refl _) (hI.ma.own_w (wx x))
        rw [hwv] at h3
        exact h3
      rw [hI.lay.vb, HX.out] at c5
      have HROW := Lib.hid hrow
      have HRG := Lib.hid hrg
      have hql : kept.length ≤ k := hle
      have HKN : Hid (k = (m.wt (wx x)).length) := HN.out.symm
      clear hrow hrg hmap hrawk hwv hrl hjm hI hle
      by_cases hq : kept.length = k
      · have HQ := Lib.hid hq
        have HF := Lib.hid (HI.out.cut HKN.out (W2 := wr) (sa := sa) (sc := sc) (HI.out.ma.part _) (Chr.refl _ _) (by
          have h1 := HROW.out
          have hz : (m.wt (wx x)).drop kept.length = [] := by rw [HQ.out]; exact List.drop_of_length_le (by rw [HN.out]; exact Nat.le_refl _)
          rw [hz, List.map_nil, List.append_nil, ← HQ.out] at h1
          exact h1) (by rw [HQ.out]; exact HRG.out) hnx)
        rw [HX.out] at HF
        obtain ⟨c6, f6, hcalls⟩ := HF.out
        have HCALL := Lib.hid hcalls
        unfold ptrP at HCALL
        have hcl : ∀ ty a c, (Builtin.clear_ #[65] ty #[.slice a 0 c]).run Try.prog wr = .ok (.tuple #[]) wr := fun ty a c => run_clear_none wr ty a c
        clear c6 hcalls hql
        rw [HQ.out] at HCALL
        rw [hq]
        clear hq
        by_cases hsk : sc = k
        · subst hsk
          go_wp2_with fail
          refine HCALL.out.mono ?_
          rintro e w6 ⟨rfl, hR⟩
          have HR := Lib.hid hR
          clear hR
          go_wp2_with fail
          go_ret
          exact ⟨_, wrong, rfl, HR.out⟩
        · skip
          go_wp2_with fail
          refine HCALL.out.mono ?_
          rintro e w6 ⟨rfl, hR⟩
          have HR := Lib.hid hR
          clear hR
          go_wp2_with fail
          go_ret
          exact ⟨_, wrong, rfl, HR.out⟩
      · have hq2 : kept.length < k := by omega
        obtain ⟨g, cap, e⟩ := own_at HROW.out (by omega)
        injection e with e1 e2 e3
        clear e2
        subst e1; subst e3
        have hgr := HRG.out g rfl
        have ho := HROW.out
        have hcl : ∀ ty, (Builtin.clear_ #[65] ty #[.slice (some ⟨g, kept.length, none⟩) (k - kept.length) (sc - kept.length)]).run Try.prog wr = .ok (.tuple #[]) (wr.setCells g kept.length (List.replicate (k - kept.length) (.pointer none))) := fun ty =>
          Lib.run_clear_slice wr _ _ ty _ Try.underlying65 zeroPc rfl rfl g kept.length _ _ (by omega) (fun j hj => own_isSome ho (by omega)) (fun j _ => own_frozen ho _)
        have hpre : wr.ownsRow 0 68 1 (.slice (some ⟨g, 0, none⟩) kept.length sc) kept.length (kept.map (ptrC L1)) := by
          refine own_less (m := k - kept.length) (ys := ((m.wt (wx x)).drop kept.length).map (ptrC L1)) ?_ (by rw [List.length_map])
          rw [show kept.length + (k - kept.length) = k by omega]
          exact ho
        have hon := only_setCells g (List.replicate (k - kept.length) (Value.pointer none)) kept.length wr
        have HF := Lib.hid (HI.out.cut HKN.out (W2 := wr.setCells g kept.length (List.replicate (k - kept.length) (.pointer none))) (sa := some ⟨g, 0, none⟩) (sc := sc) (Part.of_only HI.out.ma hgr hon) (Chr.of_only hgr hon) (own_beyonds _ _ _ hpre (Nat.le_refl _)) (fun b hb => by
          have : g = b := by simpa [Value.ownBlock] using hb
          exact this ▸ hgr) hnx)
        rw [HX.out] at HF
        obtain ⟨c6, f6, hcalls⟩ := HF.out
        have HCALL := Lib.hid hcalls
        unfold ptrP at HCALL
        have hwv2 := HI.out.wv
        rw [HSH.out] at hwv2
        rw [hwv2] at c6
        clear hcalls hpre hon ho hgr hq hwv2
        generalize kept.length = q at *
        have hsk : ¬ sc = q := by omega
        generalize wr.setCells g q (List.replicate (k - q) (.pointer none)) = W2 at *
        go_wp2_with fail
        refine HCALL.out.mono ?_
        rintro e w6 ⟨rfl, hR⟩
        have HR := Lib.hid hR
        clear hR
        go_wp2_with fail
        go_ret
        exact ⟨_, wrong, rfl, HR.out⟩

end
end Go.Proofs.Ytjlmooimdogmjaa
