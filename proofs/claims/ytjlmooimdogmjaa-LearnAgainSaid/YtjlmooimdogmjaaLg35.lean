/- A prop of the call's own beside rows of the call's own that are appended to and laid anew ('PlS'), and rows that only are read. No conditions beyond those typed. · learn's study in memory: the box, its two rows, its set of met variables ('StA'), and what each store and append leaves of it. No conditions beyond those typed. · The contract of learn's study.open: whether a literal's variable was met, and is of the study's level. Conditions: the study in memory as StA has it; a prop as PrS has it; the literal on the trail, or false. -/
import Derived.Test.YtjlmooimdogmjaaLg31
import Derived.Test.YtjlmooimdogmjaaLg34
import Derived.Test.YtjlmooimdogmjaaLg08
import Derived.Deep.CutBlock
import Derived.Deep.DeepCutAuto
set_option linter.unusedVariables false
set_option linter.unusedSimpArgs false
set_option linter.unusedVariables false
set_option linter.unusedSimpArgs false
namespace Go.Proofs.Ytjlmooimdogmjaa
open Go.RowKit

theorem own_kp {T : Nat → Prop} {w w' : World} {B : Nat} {e : TypeId} {size : Nat} {v : Value} {n : Nat} {xs : List Value} (h : w.ownsRow B e size v n xs) (hk : Kp T w w') (hT : ∀ k, v.ownBlock = some k → T k) : w'.ownsRow B e size v n xs := by
  obtain ⟨h1, h2⟩ := h
  refine ⟨h1, ?_⟩
  rcases h2 with h2 | ⟨g, cap, cur, hv, hg, hh, r⟩
  · exact .inl h2
  · subst hv
    exact .inr ⟨g, cap, cur, rfl, hg, (hk.blk g (hT g rfl)).trans hh, r⟩
/-- A row of the call's own: its elements' type, where it lies, its cells. -/
abbrev ORow := TypeId × Value × List Value
structure PlS (w0 : World) (T TI : Nat → Prop) (v : Value) (p : Pr) (rs : List ORow) (W : World) : Prop where
  pt : PT w0 T v p W
  sub : ∀ i, TI i → T i
  own : ∀ r ∈ rs, W.ownsRow w0.heap.size r.1 1 r.2.1 r.2.2.length r.2.2
  blk : ∀ r ∈ rs, ∀ k, r.2.1.ownBlock = some k → T k ∧ ¬ TI k
  sep : rs.Pairwise fun a b => ∀ k, a.2.1.ownBlock = some k → b.2.1.ownBlock ≠ some k
/-- The blocks that are new. -/
def NewB (W W' : World) (i : Nat) : Prop := W.heap.size ≤ i ∧ i < W'.heap.size
section
variable {w0 W W' : World} {T TI : Nat → Prop} {v : Value} {p : Pr} {rs : List ORow}
/-- After a call on the prop. -/
theorem PlS.call {p' : Pr} (h : PlS w0 T TI v p rs W) (hp : PT w0 T v p' W') (hk : Kp T W W') : PlS w0 T TI v p' rs W' :=
  ⟨hp, h.sub, fun r hr => own_kp (h.own r hr) hk (fun k e => (h.blk r hr k e).1), h.blk, h.sep⟩
/-- After what only makes memory. -/
theorem PlS.keep (h : PlS w0 T TI v p rs W) (hb : Below W.heap.size W W') : PlS w0 T TI v p rs W' :=
  ⟨h.pt.keep hb, h.sub, fun r hr => own_keep (h.own r hr) hb, h.blk, h.sep⟩
theorem PlS.perm {qs : List ORow} (h : PlS w0 T TI v p rs W) (hq : rs.Perm qs) : PlS w0 T TI v p qs W :=
  ⟨h.pt, h.sub, fun r hr => h.own r (hq.mem_iff.2 hr), fun r hr => h.blk r (hq.mem_iff.2 hr), (hq.pairwise_iff fun {a b} hab k e1 e2 => hab k e2 e1).1 h.sep⟩
/-- The new memory is kept too, to be read. -/
theorem PlS.read (h : PlS w0 T TI v p rs W) (hb : Below W.heap.size W W') : PlS w0 (fun i => T i ∨ NewB W W' i) (fun i => TI i ∨ NewB W W' i) v p rs W' :=
  ⟨h.pt.more hb fun i hi => hi, fun i hi => hi.imp (h.sub i) id, fun r hr => own_keep (h.own r hr) hb, fun r hr k e => ⟨.inl (h.blk r hr k e).1, fun hi => hi.elim (h.blk r hr k e).2 fun hn => absurd ((h.own r hr).lt k e).2 (Nat.not_lt.2 hn.1)⟩, h.sep⟩
/-- One row more, with nothing in it. -/
theorem PlS.none (h : PlS w0 T TI v p rs W) (e : TypeId) : PlS w0 T TI v p ((e, .slice none 0 0, []) :: rs) W :=
  ⟨h.pt, h.sub, fun r hr => (List.mem_cons.1 hr).elim (fun e => by subst e; exact World.ownsRow_nil _ _ _ _) (h.own r), fun r hr k ek => (List.mem_cons.1 hr).elim (fun e => by subst e; cases ek) (fun hr => h.blk r hr k ek), List.pairwise_cons.2 ⟨fun s _ k ek => (by cases ek), h.sep⟩⟩
theorem PlS.start (h : PSt w0 v p W) : PlS w0 (fun _ => False) (fun _ => False) v p [] W := ⟨h.pt, fun _ h => h, by simp, by simp, List.Pairwise.nil⟩
/-- A row laid anew takes the first one's place. -/
theorem PlS.fresh {r : ORow} (h : PlS w0 T TI v p (r :: rs) W) (hb : Below W.heap.size W W') {e : TypeId} {u : Value} {xs : List Value} (ho : W'.ownsRow W.heap.size e 1 u xs.length xs) : PlS w0 (fun i => T i ∨ NewB W W' i) TI v p ((e, u, xs) :: rs) W' := by
  have hnew : ∀ k, u.ownBlock = some k → NewB W W' k := fun k e => ho.lt k e
  have hTI : ∀ i, TI i → i < W.heap.size := fun i hi => h.pt.tlt i (h.sub i hi)
  refine ⟨h.pt.more hb fun i hi => hi, fun i hi => .inl (h.sub i hi), fun s hs => ?_, fun s hs k ek => ?_, List.pairwise_cons.2 ⟨fun s hs k ek es => ?_, (List.pairwise_cons.1 h.sep).2⟩⟩
  · rcases List.mem_cons.1 hs with rfl | hs
    · exact own_base ho h.pt.bel.size
    · exact own_keep (h.own s (List.mem_cons_of_mem _ hs)) hb
  · rcases List.mem_cons.1 hs with rfl | hs
    · exact ⟨.inr (hnew k ek), fun hi => absurd (hTI k hi) (Nat.not_lt.2 (hnew k ek).1)⟩
    · have := h.blk s (List.mem_cons_of_mem _ hs) k ek
      exact ⟨.inl this.1, this.2⟩
  · exact absurd ((h.own s (List.mem_cons_of_mem _ hs)).lt k es).2 (Nat.not_lt.2 (hnew k ek).1)
/-- The first row appended to. -/
theorem PlS.app {e : TypeId} {u u' : Value} {xs ys : List Value} (h : PlS w0 T TI v p ((e, u, xs) :: rs) W) (ha : App w0.heap.size W W' u u') (ho : W'.ownsRow w0.heap.size e 1 u' ys.length ys) : PlS w0 (fun i => T i ∨ NewB W W' i) TI v p ((e, u', ys) :: rs) W' := by
  have hTI : ∀ i, TI i → i < W.heap.size := fun i hi => h.pt.tlt i (h.sub i hi)
  have hu : ∀ k, u.ownBlock = some k → T k ∧ ¬ TI k := h.blk (e, u, xs) (by simp)
  have hc : Chg (rowB u) W W' := Chg.app ha fun k hk => mem_rowB.2 hk
  have hu' : ∀ k, u'.ownBlock = some k → u.ownBlock = some k ∨ NewB W W' k := fun k hk => by
    rcases ha.blk with e1 | ⟨g, e1, hg⟩
    · exact .inl (e1 ▸ hk)
    · rw [e1] at hk
      injection hk with hk
      subst hk
      exact .inr ⟨hg, (ho.lt g e1).2⟩
  have hsep := List.pairwise_cons.1 h.sep
  have hpt : PT w0 T v p W' := h.pt.chg hc fun i hi => by
    have := mem_rowB.1 hi
    exact ⟨(hu i this).1, ((h.own (e, u, xs) (by simp)).lt i this).1⟩
  have hmo : PT w0 (fun i => T i ∨ NewB W W' i) v p W' := by
    obtain ⟨S, h1, h2, h3, h4⟩ := h.pt
    have hS : PrS W' v S p := h1.keep hc fun i hi hm => (h3 i hi).2 (hu i (mem_rowB.1 hm)).1
    refine ⟨S, hS, hpt.bel, fun i hi => ⟨(h3 i hi).1, fun hT => ?_⟩, fun i hi => ?_⟩
    · rcases hT with hT | hT
      · exact (h3 i hi).2 hT
      · exact absurd (h1.lt i hi) (Nat.not_lt.2 hT.1)
    · exact hi.elim (fun hT => Nat.lt_of_lt_of_le (h4 i hT) hc.size) fun hn => hn.2
  refine ⟨hmo, fun i hi => .inl (h.sub i hi), fun s hs => ?_, fun s hs k ek => ?_, List.pairwise_cons.2 ⟨fun s hs k ek es => ?_, hsep.2⟩⟩
  · rcases List.mem_cons.1 hs with rfl | hs
    · exact ho
    · exact own_chg (h.own s (List.mem_cons_of_mem _ hs)) hc fun k hk hm => hsep.1 s hs k (mem_rowB.1 hm) hk
  · rcases List.mem_cons.1 hs with rfl | hs
    · rcases hu' k ek with e1 | hn
      · exact ⟨.inl (hu k e1).1, (hu k e1).2⟩
      · exact ⟨.inr hn, fun hi => absurd (hTI k hi) (Nat.not_lt.2 hn.1)⟩
    · have := h.blk s (List.mem_cons_of_mem _ hs) k ek
      exact ⟨.inl this.1, this.2⟩
  · rcases hu' k ek with e1 | hn
    · exact hsep.1 s hs k e1 es
    · exact absurd ((h.own s (List.mem_cons_of_mem _ hs)).lt k es).2 (Nat.not_lt.2 hn.1)
/-- Rows that only are read stay as they are, whatever is appended to. -/
theorem PlS.kpApp {e : TypeId} {u u' : Value} {xs : List Value} (h : PlS w0 T TI v p ((e, u, xs) :: rs) W) (ha : App w0.heap.size W W' u u') : Kp TI W W' := by
  have hu : ∀ k, u.ownBlock = some k → T k ∧ ¬ TI k := h.blk (e, u, xs) (by simp)
  have hc : Chg (rowB u) W W' := Chg.app ha fun k hk => mem_rowB.2 hk
  exact ⟨hc.size, fun i hi => hc.block i (h.pt.tlt i (h.sub i hi)) fun hm => (hu i (mem_rowB.1 hm)).2 hi⟩
theorem PlS.kpB (h : PlS w0 T TI v p rs W) (hb : Below W.heap.size W W') : Kp TI W W' := Kp.below hb fun i hi => h.pt.tlt i (h.sub i hi)
theorem PlS.kpCall (h : PlS w0 T TI v p rs W) (hk : Kp T W W') : Kp TI W W' := hk.sub h.sub
end
end Go.Proofs.Ytjlmooimdogmjaa

set_option linter.unusedVariables false
set_option linter.unusedSimpArgs false
namespace Go.Proofs.Ytjlmooimdogmjaa
open Go.RowKit Go.Maps

/-- The study in the block g: top, how many, below, the set (in the block mb), seen; what lies in T is kept from it. -/
structure StA (B : Nat) (T : Nat → Prop) (W : World) (g mb : Nat) (v : Value) (top : Int) (many : Nat) (bl zs ss : List Int) (bv sv : Value) : Prop where
  c0 : W.cell? ⟨g, 0, none⟩ = some v
  c1 : W.cell? ⟨g, 1, none⟩ = some (.int .i64 top)
  c2 : W.cell? ⟨g, 2, none⟩ = some (.int .i64 (many : Int))
  c3 : W.cell? ⟨g, 3, none⟩ = some bv
  c4 : W.cell? ⟨g, 4, none⟩ = some (.map (some mb))
  c5 : W.cell? ⟨g, 5, none⟩ = some sv
  fr : ∀ i, W.frozen? ⟨g, i, none⟩ = false
  gB : B ≤ g
  gl : g < W.heap.size
  mp : W.ownsMap Try.prog 3 unitElem mb zs.length (setI zs)
  mB : B ≤ mb
  rb : W.ownsRow B 3 1 bv bl.length (bl.map (Value.int .i64))
  rs : W.ownsRow B 3 1 sv ss.length (ss.map (Value.int .i64))
  gm : g ≠ mb
  nb : ∀ k, bv.ownBlock = some k → k ≠ g ∧ k ≠ mb
  ns : ∀ k, sv.ownBlock = some k → k ≠ g ∧ k ≠ mb ∧ bv.ownBlock ≠ some k
  av : ∀ i, T i → i < W.heap.size ∧ i ≠ g ∧ i ≠ mb ∧ bv.ownBlock ≠ some i ∧ sv.ownBlock ≠ some i
section
variable {B : Nat} {T : Nat → Prop} {W W' : World} {g mb : Nat} {v : Value} {top : Int} {many : Nat} {bl zs ss : List Int} {bv sv : Value}
theorem cell_blk {W W' : World} {b : Nat} (h : W'.heap[b]? = W.heap[b]?) (i : Nat) : W'.cell? ⟨b, i, none⟩ = W.cell? ⟨b, i, none⟩ := World.cell?_of_block (a := ⟨b, i, none⟩) h
theorem froz_blk {W W' : World} {b : Nat} (h : W'.heap[b]? = W.heap[b]?) (i : Nat) : W'.frozen? ⟨b, i, none⟩ = W.frozen? ⟨b, i, none⟩ := by
  show (match W'.heap[b]? with | _ => _) = _
  unfold World.frozen?
  rw [h]
theorem StA.chg {R : List Nat} (h : StA B T W g mb v top many bl zs ss bv sv) (hc : Chg R W W') (hR : ∀ i ∈ R, i ≠ g ∧ i ≠ mb ∧ bv.ownBlock ≠ some i ∧ sv.ownBlock ≠ some i) : StA B T W' g mb v top many bl zs ss bv sv := by
  have hg := hc.block g h.gl fun hm => (hR g hm).1 rfl
  have hm := hc.block mb h.mp.lt fun hm => (hR mb hm).2.1 rfl
  exact ⟨(cell_blk hg 0).trans h.c0, (cell_blk hg 1).trans h.c1, (cell_blk hg 2).trans h.c2, (cell_blk hg 3).trans h.c3, (cell_blk hg 4).trans h.c4, (cell_blk hg 5).trans h.c5, fun i => (froz_blk hg i).trans (h.fr i), h.gB, Nat.lt_of_lt_of_le h.gl hc.size, ownsMap_block h.mp hm, h.mB, own_chg h.rb hc fun k e hk => (hR k hk).2.2.1 e, own_chg h.rs hc fun k e hk => (hR k hk).2.2.2 e, h.gm, h.nb, h.ns, fun i hi => ⟨Nat.lt_of_lt_of_le (h.av i hi).1 hc.size, (h.av i hi).2⟩⟩
theorem StA.keep (h : StA B T W g mb v top many bl zs ss bv sv) (hb : Below W.heap.size W W') : StA B T W' g mb v top many bl zs ss bv sv := h.chg (Chg.of_below (S := []) hb) (by simp)
/-- More is kept. -/
theorem StA.more {U : Nat → Prop} (h : StA B T W g mb v top many bl zs ss bv sv) (hb : Below W.heap.size W W') (hU : ∀ i, U i → T i ∨ NewB W W' i) : StA B U W' g mb v top many bl zs ss bv sv := by
  have k := h.keep hb
  refine { k with av := fun i hi => ?_ }
  rcases hU i hi with hi | hi
  · exact k.av i hi
  · refine ⟨hi.2, fun e => ?_, fun e => ?_, fun e => ?_, fun e => ?_⟩
    · have := h.gl; have := hi.1; omega
    · have := h.mp.lt; have := hi.1; omega
    · have := (h.rb.lt i e).2; have := hi.1; omega
    · have := (h.rs.lt i e).2; have := hi.1; omega
theorem StA.less {U : Nat → Prop} (h : StA B T W g mb v top many bl zs ss bv sv) (hU : ∀ i, U i → T i) : StA B U W g mb v top many bl zs ss bv sv := { h with av := fun i hi => h.av i (hU i hi) }
theorem StA.setMany (h : StA B T W g mb v top many bl zs ss bv sv) (n : Nat) : StA B T (W.setCell ⟨g, 2, none⟩ (.int .i64 (n : Int))) g mb v top n bl zs ss bv sv ∧ Kp T W (W.setCell ⟨g, 2, none⟩ (.int .i64 (n : Int))) ∧ Below B W (W.setCell ⟨g, 2, none⟩ (.int .i64 (n : Int))) := by
  have hc : Chg [g] W (W.setCell ⟨g, 2, none⟩ (.int .i64 (n : Int))) := (Chg.refl [g] W).setCell (.inl (by simp)) _
  have hm := hc.block mb h.mp.lt (by simp; exact fun e => h.gm e.symm)
  refine ⟨⟨(set_off (.inr (by decide))).trans h.c0, (set_off (.inr (by decide))).trans h.c1, set_at h.c2, (set_off (.inr (by decide))).trans h.c3, (set_off (.inr (by decide))).trans h.c4, (set_off (.inr (by decide))).trans h.c5, fun i => set_fr (h.fr i), h.gB, Nat.lt_of_lt_of_le h.gl hc.size, ownsMap_block h.mp hm, h.mB, own_chg h.rb hc fun k e hk => by simp at hk; exact (h.nb k e).1 hk, own_chg h.rs hc fun k e hk => by simp at hk; exact (h.ns k e).1 hk, h.gm, h.nb, h.ns, fun i hi => ⟨Nat.lt_of_lt_of_le (h.av i hi).1 hc.size, (h.av i hi).2⟩⟩, ⟨hc.size, fun i hi => hc.block i (h.av i hi).1 (by simp; exact (h.av i hi).2.1)⟩, hc.below (Below.refl _ _) (Nat.le_trans h.gB (Nat.le_of_lt h.gl)) (by simp; exact h.gB)⟩
theorem StA.setMap {x : Int} (h : StA B T W g mb v top many bl zs ss bv sv) (hg : W.grownBy W' (some mb)) (hm : W'.ownsMap Try.prog 3 unitElem mb (zs.length + 1) ((setI zs).put (.int .i64 x) (.agg []))) : StA B T W' g mb v top many bl (zs ++ [x]) ss bv sv ∧ Kp T W W' ∧ Below B W W' := by
  have hc : Chg [mb] W W' := Chg.grown hg (by simp)
  have hgb := hc.block g h.gl (by simp; exact h.gm)
  refine ⟨⟨(cell_blk hgb 0).trans h.c0, (cell_blk hgb 1).trans h.c1, (cell_blk hgb 2).trans h.c2, (cell_blk hgb 3).trans h.c3, (cell_blk hgb 4).trans h.c4, (cell_blk hgb 5).trans h.c5, fun i => (froz_blk hgb i).trans (h.fr i), h.gB, Nat.lt_of_lt_of_le h.gl hc.size, by rw [setI_snoc, List.length_append]; exact hm, h.mB, own_chg h.rb hc fun k e hk => by simp at hk; exact (h.nb k e).2 hk, own_chg h.rs hc fun k e hk => by simp at hk; exact (h.ns k e).2.1 hk, h.gm, h.nb, h.ns, fun i hi => ⟨Nat.lt_of_lt_of_le (h.av i hi).1 hc.size, (h.av i hi).2⟩⟩, ⟨hc.size, fun i hi => hc.block i (h.av i hi).1 (by simp; exact (h.av i hi).2.2.1)⟩, hc.below (Below.refl _ _) (Nat.le_trans h.gB (Nat.le_of_lt h.gl)) (by simp; exact h.mB)⟩
/-- A row appended to, then stored. -/
theorem StA.appS {sv' : Value} {x : Int} (h : StA B T W g mb v top many bl zs ss bv sv) (ha : App B W W' sv sv') (ho : W'.ownsRow B 3 1 sv' (ss.length + 1) ((ss ++ [x]).map (Value.int .i64))) : StA B T (W'.setCell ⟨g, 5, none⟩ sv') g mb v top many bl zs (ss ++ [x]) bv sv' ∧ Kp T W (W'.setCell ⟨g, 5, none⟩ sv') ∧ Below B W (W'.setCell ⟨g, 5, none⟩ sv') := by
  have hc1 : Chg (rowB sv) W W' := Chg.app ha fun k hk => mem_rowB.2 hk
  have hn : ∀ k, sv'.ownBlock = some k → sv.ownBlock = some k ∨ W.heap.size ≤ k := fun k hk => by
    rcases ha.blk with e | ⟨q, e, hq⟩
    · exact .inl (e ▸ hk)
    · rw [e] at hk; injection hk with hk; subst hk; exact .inr hq
  have hns : ∀ k, sv'.ownBlock = some k → k ≠ g ∧ k ≠ mb ∧ bv.ownBlock ≠ some k := fun k hk => by
    rcases hn k hk with e | hk
    · exact h.ns k e
    · exact ⟨by have := h.gl; omega, by have := h.mp.lt; omega, fun e => by have := (h.rb.lt k e).2; omega⟩
  have hgb := hc1.block g h.gl (fun hm => (h.ns g (mem_rowB.1 hm)).1 rfl)
  have hmb := hc1.block mb h.mp.lt (fun hm => (h.ns mb (mem_rowB.1 hm)).2.1 rfl)
  have hc2 : Chg [g] W' (W'.setCell ⟨g, 5, none⟩ sv') := (Chg.refl [g] W').setCell (.inl (by simp)) _
  have hrb := own_chg h.rb hc1 fun k e hm => (h.ns k (mem_rowB.1 hm)).2.2 e
  have gl' : g < W'.heap.size := Nat.lt_of_lt_of_le h.gl hc1.size
  have hmb2 := hc2.block mb (Nat.lt_of_lt_of_le h.mp.lt hc1.size) (by simp; exact fun e => h.gm e.symm)
  refine ⟨⟨(set_off (.inr (by decide))).trans ((cell_blk hgb 0).trans h.c0), (set_off (.inr (by decide))).trans ((cell_blk hgb 1).trans h.c1), (set_off (.inr (by decide))).trans ((cell_blk hgb 2).trans h.c2), (set_off (.inr (by decide))).trans ((cell_blk hgb 3).trans h.c3), (set_off (.inr (by decide))).trans ((cell_blk hgb 4).trans h.c4), set_at ((cell_blk hgb 5).trans h.c5), fun i => set_fr ((froz_blk hgb i).trans (h.fr i)), h.gB, Nat.lt_of_lt_of_le gl' hc2.size, ownsMap_block h.mp (hmb2.trans hmb), h.mB, own_chg hrb hc2 fun k e hk => by simp at hk; exact (h.nb k e).1 hk, ?_, h.gm, h.nb, hns, fun i hi => ⟨Nat.lt_of_lt_of_le (Nat.lt_of_lt_of_le (h.av i hi).1 hc1.size) hc2.size, (h.av i hi).2.1, (h.av i hi).2.2.1, (h.av i hi).2.2.2.1, fun e => ?_⟩⟩, ⟨Nat.le_trans hc1.size hc2.size, fun i hi => ?_⟩, ha.below.trans (hc2.below (Below.refl _ _) (Nat.le_trans h.gB (Nat.le_of_lt gl')) (by simp; exact h.gB))⟩
  · have := own_chg ho hc2 fun k e hk => by simp at hk; exact (hns k e).1 hk
    rwa [List.length_append]
  · rcases hn i e with e | hk
    · exact (h.av i hi).2.2.2.2 e
    · have := (h.av i hi).1; omega
  · exact (hc2.block i (Nat.lt_of_lt_of_le (h.av i hi).1 hc1.size) (by simp; exact (h.av i hi).2.1)).trans (hc1.block i (h.av i hi).1 (fun hm => (h.av i hi).2.2.2.2 (mem_rowB.1 hm)))
theorem StA.appB {bv' : Value} {x : Int} (h : StA B T W g mb v top many bl zs ss bv sv) (ha : App B W W' bv bv') (ho : W'.ownsRow B 3 1 bv' (bl.length + 1) ((bl ++ [x]).map (Value.int .i64))) : StA B T (W'.setCell ⟨g, 3, none⟩ bv') g mb v top many (bl ++ [x]) zs ss bv' sv ∧ Kp T W (W'.setCell ⟨g, 3, none⟩ bv') ∧ Below B W (W'.setCell ⟨g, 3, none⟩ bv') := by
  have hc1 : Chg (rowB bv) W W' := Chg.app ha fun k hk => mem_rowB.2 hk
  have hn : ∀ k, bv'.ownBlock = some k → bv.ownBlock = some k ∨ W.heap.size ≤ k := fun k hk => by
    rcases ha.blk with e | ⟨q, e, hq⟩
    · exact .inl (e ▸ hk)
    · rw [e] at hk; injection hk with hk; subst hk; exact .inr hq
  have hnb : ∀ k, bv'.ownBlock = some k → k ≠ g ∧ k ≠ mb := fun k hk => by
    rcases hn k hk with e | hk
    · exact h.nb k e
    · exact ⟨by have := h.gl; omega, by have := h.mp.lt; omega⟩
  have hns : ∀ k, sv.ownBlock = some k → k ≠ g ∧ k ≠ mb ∧ bv'.ownBlock ≠ some k := fun k hk => ⟨(h.ns k hk).1, (h.ns k hk).2.1, fun e => by
    rcases hn k e with e | hge
    · exact (h.ns k hk).2.2 e
    · have := (h.rs.lt k hk).2; omega⟩
  have hgb := hc1.block g h.gl (fun hm => (h.nb g (mem_rowB.1 hm)).1 rfl)
  have hmb := hc1.block mb h.mp.lt (fun hm => (h.nb mb (mem_rowB.1 hm)).2 rfl)
  have hc2 : Chg [g] W' (W'.setCell ⟨g, 3, none⟩ bv') := (Chg.refl [g] W').setCell (.inl (by simp)) _
  have hrs := own_chg h.rs hc1 fun k e hm => (h.ns k e).2.2 (mem_rowB.1 hm)
  have gl' : g < W'.heap.size := Nat.lt_of_lt_of_le h.gl hc1.size
  have hmb2 := hc2.block mb (Nat.lt_of_lt_of_le h.mp.lt hc1.size) (by simp; exact fun e => h.gm e.symm)
  refine ⟨⟨(set_off (.inr (by decide))).trans ((cell_blk hgb 0).trans h.c0), (set_off (.inr (by decide))).trans ((cell_blk hgb 1).trans h.c1), (set_off (.inr (by decide))).trans ((cell_blk hgb 2).trans h.c2), set_at ((cell_blk hgb 3).trans h.c3), (set_off (.inr (by decide))).trans ((cell_blk hgb 4).trans h.c4), (set_off (.inr (by decide))).trans ((cell_blk hgb 5).trans h.c5), fun i => set_fr ((froz_blk hgb i).trans (h.fr i)), h.gB, Nat.lt_of_lt_of_le gl' hc2.size, ownsMap_block h.mp (hmb2.trans hmb), h.mB, ?_, own_chg hrs hc2 fun k e hk => by simp at hk; exact (h.ns k e).1 hk, h.gm, hnb, hns, fun i hi => ⟨Nat.lt_of_lt_of_le (Nat.lt_of_lt_of_le (h.av i hi).1 hc1.size) hc2.size, (h.av i hi).2.1, (h.av i hi).2.2.1, fun e => ?_, (h.av i hi).2.2.2.2⟩⟩, ⟨Nat.le_trans hc1.size hc2.size, fun i hi => ?_⟩, ha.below.trans (hc2.below (Below.refl _ _) (Nat.le_trans h.gB (Nat.le_of_lt gl')) (by simp; exact h.gB))⟩
  · have := own_chg ho hc2 fun k e hk => by simp at hk; exact (hnb k e).1 hk
    rwa [List.length_append]
  · rcases hn i e with e | hk
    · exact (h.av i hi).2.2.2.1 e
    · have := (h.av i hi).1; omega
  · exact (hc2.block i (Nat.lt_of_lt_of_le (h.av i hi).1 hc1.size) (by simp; exact (h.av i hi).2.1)).trans (hc1.block i (h.av i hi).1 (fun hm => (h.av i hi).2.2.2.1 (mem_rowB.1 hm)))
end
end Go.Proofs.Ytjlmooimdogmjaa

set_option linter.unusedVariables false
set_option linter.unusedSimpArgs false
namespace Go.Proofs.Ytjlmooimdogmjaa
open Go.RowKit Go.Maps

theorem lookU {W : World} {mb n : Nat} {zs : List Int} (h : W.ownsMap Try.prog 3 unitElem mb n (setI zs)) (x : Int) (h1 : -9223372036854775808 ≤ x) (h2 : x ≤ 9223372036854775807) : (Instr.lookup 58 (.map (some mb)) (.int .i64 x) true).run Try.prog W = .ok (.tuple #[.agg #[], .bool (zs.contains x)]) W := by
  obtain ⟨v, ps, hr, hv⟩ := h.look_ok lawI Try.underlying58 (zeroU _) unitElem_mk (keyI x h1 h2)
  have : v = .agg #[] := (unitElem_inv hv).1
  subst this
  rw [setI_has] at hr
  exact hr

set_option maxRecDepth 8000 in
set_option maxHeartbeats 2000000 in
theorem open_any {B : Nat} {T : Nat → Prop} {W : World} {g mb : Nat} {v : Value} {top : Int} {many : Nat} {bl zs ss : List Int} {bv sv : Value} {S : List Nat} {p : Pr} (hs : PrS W v S p) (hA : StA B T W g mb v top many bl zs ss bv sv) (l : Int) (hl : -4000 ≤ l ∧ l ≤ 4000) :
    Calls Try.prog 62 #[.pointer (some ⟨g, 0, none⟩), .int .i64 l] W fun e w' => e = .returned (.bool (zs.contains (absI l) && decide (levP p (absI l) = top))) ∧ Below W.heap.size W w' := by
  have hab : 0 ≤ absI l ∧ absI l ≤ 4000 := by unfold absI; split <;> omega
  have HVA := Lib.hid (fun V => var_any l V (by omega) (by omega))
  have HP : Hid (∀ V, Below W.heap.size W V → PrS V v S p) := fun V hV => hs.below hV
  have HL : Hid (∀ V, Below W.heap.size W V → Calls Try.prog 12 #[v, .int .i64 (absI l)] V fun e w' => e = .returned (.int .i64 (levP p (absI l))) ∧ V = w') := fun V hV => plev_any V (HP.out V hV) _ (by omega) (by omega)
  have HK : Hid (∀ V, Below W.heap.size W V → (Instr.lookup 58 (.map (some mb)) (.int .i64 (absI l)) true).run Try.prog V = .ok (.tuple #[.agg #[], .bool (zs.contains (absI l))]) V) := fun V hV => lookU (hA.keep hV).mp _ (by omega) (by omega)
  have HC : Hid (∀ V, Below W.heap.size W V → V.cell? ⟨g, 0, none⟩ = some v ∧ V.cell? ⟨g, 1, none⟩ = some (.int .i64 top) ∧ V.cell? ⟨g, 4, none⟩ = some (.map (some mb))) := fun V hV => ⟨(hA.keep hV).c0, (hA.keep hV).c1, (hA.keep hV).c4⟩
  obtain ⟨q, rfl⟩ := hs.ptr
  clear hs hA hl
  generalize absI l = al at *
  generalize zs.contains al = r at *
  go_enter Try.func62, Try.ntmps62
  go_upto_region 1 with fail
  have k0 := HK.out W (Below.refl _ _)
  have k1 := HK.out W.drew (Below.refl _ _).drew
  have k2 := HK.out (W.alloc (.cells #[] 86)) ((Below.refl _ _).alloc (Nat.le_refl _) _)
  have k3 := HK.out (W.alloc (.cells #[] 86)).drew ((Below.refl _ _).alloc (Nat.le_refl _) _).drew
  have k4 := HK.out (W.drew.alloc (.cells #[] 86)) ((Below.refl _ _).drew.alloc (Nat.le_refl _) _)
  have c4 := (HC.out W (Below.refl _ _)).2.2
  have c41 := (HC.out W.drew (Below.refl _ _).drew).2.2
  have c42 := (HC.out (W.alloc (.cells #[] 86)) ((Below.refl _ _).alloc (Nat.le_refl _) _)).2.2
  have c43 := (HC.out (W.alloc (.cells #[] 86)).drew ((Below.refl _ _).alloc (Nat.le_refl _) _).drew).2.2
  have c44 := (HC.out (W.drew.alloc (.cells #[] 86)) ((Below.refl _ _).drew.alloc (Nat.le_refl _) _)).2.2
  go_cut [6] (fun mv V => mv = .bool r ∧ Below W.heap.size W V)
  case first =>
    go_region_with (first
      | (go_at_call 41; refine (HVA.out _).mono ?_; rintro e w' ⟨rfl, rfl⟩))
    all_goals
      go_wp2_with fail
      go_meet
      exact ⟨rfl, by first
        | exact ((Below.refl _ _).alloc (Nat.le_refl _) _).drew
        | exact (Below.refl _ _).drew.alloc (Nat.le_refl _) _
        | exact (Below.refl _ _).alloc (Nat.le_refl _) _
        | exact ((Below.refl _ _).alloc (Nat.le_refl _) _).drew.drew
        | exact ((Below.refl _ _).drew.alloc (Nat.le_refl _) _).drew⟩
  case rest =>
    obtain ⟨rfl, hbc⟩ := hcut
    have HBC := Lib.hid hbc
    clear k0 k1 k2 k3 k4 c4 c41 c42 c43 c44 HK
    cases r with
    | false =>
      clear hbc
      go_wp2_with fail
      go_quiet (fail)
      go_wp2_with fail
      go_ret
      exact ⟨rfl, HBC.out.trans ((below_draws ⟨_, rfl⟩).mono HBC.out.size)⟩
    | true =>
      obtain ⟨c0, c1, _⟩ := HC.out wc hbc
      have HLL : Hid (∀ t, Calls Try.prog 12 #[.pointer (some ⟨q, 0, none⟩), .int .i64 al] (wc.drewN t) fun e w' => e = .returned (.int .i64 (levP p al)) ∧ wc.drewN t = w') := fun t => HL.out _ (HBC.out.trans ((below_draws ⟨t, rfl⟩).mono HBC.out.size))
      clear hbc HL HC
      obtain ⟨lv, hlv⟩ : ∃ lv, levP p al = lv := ⟨_, rfl⟩
      rw [hlv] at HLL
      have HLV := Lib.hid hlv
      clear hlv
      have hd : decide (lv = top) = (lv == top) := by rw [Bool.eq_iff_iff]; simp
      have HD := Lib.hid hd
      clear hd
      go_wp2_with fail
      go_quiet (first
        | (go_at_call 41; refine (HVA.out _).mono ?_; rintro e w' ⟨rfl, rfl⟩; exact ⟨rfl, _, rfl⟩)
        | (go_at_call 12; refine (HLL.out _).mono ?_; rintro e w' ⟨rfl, rfl⟩; exact ⟨rfl, _, rfl⟩))
      go_wp2_with fail
      go_ret
      exact ⟨by rw [HLV.out, HD.out]; rfl, HBC.out.trans ((below_draws ⟨_, rfl⟩).mono HBC.out.size)⟩
end Go.Proofs.Ytjlmooimdogmjaa
