/- The contract of graph's add: a new gate. Conditions: the graph lies in memory as 'GrM' says; the gate is not there yet; there is room. -/
import Derived.Test.YtdmhjpofinnpmaaDoorGrC
import Derived.Deep.RegionLaw
import Derived.Deep.AppendLies
import Derived.Deep.RegionHeld3
import Derived.WalkSmall
import Derived.Deep.Draws
namespace Go.Proofs.YtdmhjpofinnpmaaDoor
open Go.RowKit Go.Maps

theorem infoA : (Tryd.prog.info? 49).map (fun i => (i.zero, i.size, i.bytes)) = some (some (.agg #[.int .i64 0, .int .i64 0]), 2, 16) := by kernel_rfl
theorem add0 (g k : Nat) : (⟨g, 0, none⟩ : Addr).add k = ⟨g, k, none⟩ := by unfold Addr.add; split <;> simp_all

theorem chg_drewN {S : List Nat} (w : World) (k : Nat) : Chg S w (w.drewN k) := Chg.of_below (below_drewN (Below.refl _ _) k)
/-- Behind the store of the new row: what the rest of add asks. -/
def AddCells (W : World) (B gn p m ga g1 cap : Nat) (x y : Int) : Prop :=
  W.cell? ⟨p, 0, none⟩ = some (.int .i64 (gn : Int)) ∧ W.cell? ⟨p, 1, none⟩ = some (.slice (some ⟨g1, 0, none⟩) (ga + 1) cap) ∧ W.cell? ⟨p, 2, none⟩ = some (.map (some m)) ∧ W.cell? ⟨B, 0, none⟩ = some (.int .i64 x) ∧ W.cell? ⟨B, 1, none⟩ = some (.int .i64 y)
theorem AddCells.chg {W W' : World} {B gn p m ga g1 cap : Nat} {x y : Int} {S : List Nat} (h : AddCells W B gn p m ga g1 cap x y) (hc : Chg S W W') (hp : p ∉ S) (hB : B ∉ S) : AddCells W' B gn p m ga g1 cap x y := by
  obtain ⟨h0, h1, h2, h3, h4⟩ := h
  have kp : p < W.heap.size := World.block_lt_of_cell? W _ h0
  have kB : B < W.heap.size := World.block_lt_of_cell? W _ h3
  exact ⟨(hc.cell kp hp).trans h0, (hc.cell kp hp).trans h1, (hc.cell kp hp).trans h2, (hc.cell kB hB).trans h3, (hc.cell kB hB).trans h4⟩
def AddMid (w w1 : World) (A : Nat → Addr) (v : Value) (S : List Nat) (g : Gr) (p m : Nat) (ao : Option Addr) (co : Nat) (x y : Int) (g1 cap : Nat) : Prop :=
  w1.ownsRow 0 49 2 (.slice (some ⟨g1, 0, none⟩) (g.ands.length + 1) cap) (g.ands.length + 1) (g.ands.flatMap pcells ++ pcells (x, y)) → Chg S w w1 → w1.heap[p]? = w.heap[p]? → w1.heap[m]? = w.heap[m]? → w1.cell? ⟨w.heap.size, 0, none⟩ = some (.int .i64 x) → w1.cell? ⟨w.heap.size, 1, none⟩ = some (.int .i64 y) →
    ((Value.slice ao g.ands.length co).ownBlock = some g1 ∨ g1 = w.heap.size + 2) →
    AddCells (w1.setCell ⟨p, 1, none⟩ (.slice (some ⟨g1, 0, none⟩) (g.ands.length + 1) cap)) w.heap.size g.n p m g.ands.length g1 cap x y ∧
    ∃ f : Nat → World, ∀ k, (Instr.mapUpdate 61 (.map (some m)) (.agg #[.int .i64 x, .int .i64 y]) (.int .i64 (2 * ((g.n + (g.ands.length + 1) : Nat) : Int)))).run Tryd.prog ((w1.setCell ⟨p, 1, none⟩ (.slice (some ⟨g1, 0, none⟩) (g.ands.length + 1) cap)).drewN k) = .ok () (f k) ∧
      AddCells (f k) w.heap.size g.n p m g.ands.length g1 cap x y ∧ (∃ S', GrM (f k) A v S' ⟨g.n, g.ands ++ [(x, y)], g.bad⟩ ∧ Fresh w S S') ∧ Chg S w (f k)

theorem gadd_mid {w w1 : World} {A : Nat → Addr} {v : Value} {S : List Nat} {g : Gr} {p m N : Nat} {D : DataW Unit} {ao : Option Addr} {co : Nat} {x y : Int} (g1 cap : Nat) (h : GrAt w A v S g p m (.slice ao g.ands.length co) N D) (hx : in64 x) (hy : in64 y) (hn : (x, y) ∉ g.ands) (hl : g.len < 8000) : AddMid w w1 A v S g p m ao co x y g1 cap := by
  intro hown hchg hbp hbm h0 h1 hat
  have hp : p ∈ S := by rw [h.foot]; simp
  have hm : m ∈ S := by rw [h.foot]; simp
  have hpl := h.lt p hp
  have hml := h.lt m hm
  have hgp : g1 ≠ p := fun e => hat.elim (fun e' => h.pu (by rw [e', e])) (fun e' => by omega)
  have hgm : g1 ≠ m := fun e => hat.elim (fun e' => h.mu (by rw [e', e])) (fun e' => by omega)
  have hgS : g1 ∈ S ∨ w.heap.size ≤ g1 := hat.elim (fun e' => .inl (by rw [h.foot]; simp [mem_rowB, e'])) (fun e' => .inr (by omega))
  have hc2 : Chg [p] w1 (w1.setCell ⟨p, 1, none⟩ (.slice (some ⟨g1, 0, none⟩) (g.ands.length + 1) cap)) := (Chg.refl _ _).setCell (.inl (by simp)) _
  have kp : ∀ o, w1.cell? ⟨p, o, none⟩ = w.cell? ⟨p, o, none⟩ := fun o => World.cell?_of_block (a := ⟨p, o, none⟩) hbp
  have ho : ∀ o, o ≠ 1 → (w1.setCell ⟨p, 1, none⟩ (.slice (some ⟨g1, 0, none⟩) (g.ands.length + 1) cap)).cell? ⟨p, o, none⟩ = w.cell? ⟨p, o, none⟩ := fun o hne => (World.cell?_setCell_other (w := w1) (h := fun hh => hne (by injection hh with _ e; exact e.symm)) ..).trans (kp o)
  have hs1 : w.heap.size < w1.heap.size := World.block_lt_of_cell? w1 _ h0
  have hA2 : AddCells (w1.setCell ⟨p, 1, none⟩ (.slice (some ⟨g1, 0, none⟩) (g.ands.length + 1) cap)) w.heap.size g.n p m g.ands.length g1 cap x y :=
    ⟨(ho 0 (by decide)).trans h.c0, World.cell?_setCell_same (w := w1) (h := (kp 1).trans h.c1) .., (ho 2 (by decide)).trans h.c2, (hc2.cell hs1 (by simp; omega)).trans h0, (hc2.cell hs1 (by simp; omega)).trans h1⟩
  have h3 := (ho 3 (by decide)).trans h.c3
  have hfr : ∀ i, (w1.setCell ⟨p, 1, none⟩ (.slice (some ⟨g1, 0, none⟩) (g.ands.length + 1) cap)).frozen? ⟨p, i, none⟩ = false := fun i => (World.frozen?_setCell _ _ _ _).trans ((World.frozen?_of_block (a := ⟨p, i, none⟩) hbp).trans (h.fr i))
  have hr2 := own_chg hown hc2 (fun k hk => by
    have : g1 = k := by simpa [Value.ownBlock] using hk
    simp; omega)
  have hmap : (w1.setCell ⟨p, 1, none⟩ (.slice (some ⟨g1, 0, none⟩) (g.ands.length + 1) cap)).ownsMap Tryd.prog 49 (plainElem Tryd.prog 3) m N D := by
    obtain ⟨es, clock, k1, k2⟩ := h.map
    exact ⟨es, clock, ((Below.heap_setCell _ _ _ _ (fun e => h.pm e.symm)).trans hbm).trans k1, k2⟩
  have hs2 : w1.heap.size ≤ (w1.setCell ⟨p, 1, none⟩ (.slice (some ⟨g1, 0, none⟩) (g.ands.length + 1) cap)).heap.size := hc2.size
  have hcw2 : Chg S w (w1.setCell ⟨p, 1, none⟩ (.slice (some ⟨g1, 0, none⟩) (g.ands.length + 1) cap)) := hchg.setCell (.inl hp) _
  refine ⟨hA2, ?_⟩
  generalize w1.setCell ⟨p, 1, none⟩ (.slice (some ⟨g1, 0, none⟩) (g.ands.length + 1) cap) = w2 at *
  have hv : (2 * ((g.n + (g.ands.length + 1) : Nat) : Int)) = 2 * ((g.len : Int) + 1) := by unfold Gr.len; omega
  have hbd : in64 (2 * ((g.len : Int) + 1)) := by unfold in64; omega
  have hN : N < maxLen := by have := h.nle; have := h.len; unfold Gr.len at this; unfold maxLen; omega
  have key : ∀ k, ∃ w3, (Instr.mapUpdate 61 (.map (some m)) (.agg #[.int .i64 x, .int .i64 y]) (.int .i64 (2 * ((g.n + (g.ands.length + 1) : Nat) : Int)))).run Tryd.prog (w2.drewN k) = .ok () w3 ∧ AddCells w3 w.heap.size g.n p m g.ands.length g1 cap x y ∧ (∃ S', GrM w3 A v S' ⟨g.n, g.ands ++ [(x, y)], g.bad⟩ ∧ Fresh w S S') ∧ Chg S w w3 := fun k => by
    have hmk : (w2.drewN k).ownsMap Tryd.prog 49 (plainElem Tryd.prog 3) m N D := by
      obtain ⟨es, clock, k1, k2⟩ := hmap
      exact ⟨es, clock, k1, k2⟩
    obtain ⟨w3, hrun, hm3, hg3⟩ := hmk.update lawA Tryd.underlying61 hN (keyA x y hx hy) (plainElem_int Tryd.underlying3 (WalkArith.wf_i64 hbd))
    have hc3 : Chg [m] w2 w3 := (chg_drewN w2 k).trans (T := [m]) (Chg.grown hg3 (by simp)) (Fresh.refl _ _)
    have hpm : p ∉ [m] := by simp; exact h.pm
    have hp2 : p < w2.heap.size := Nat.lt_of_lt_of_le hpl (Nat.le_trans (Nat.le_of_lt hs1) hs2)
    have hA3 := hA2.chg hc3 hpm (by simp; omega)
    refine ⟨w3, by rw [hv]; exact hrun, hA3, ⟨p :: m :: [g1], ⟨p, m, .slice (some ⟨g1, 0, none⟩) (g.ands.length + 1) cap, N + 1, _,
      { val := h.val, foot := rfl
        c0 := hA3.1
        c1 := hA3.2.1
        c2 := hA3.2.2.1
        c3 := (hc3.cell hp2 hpm).trans h3
        fr := fun i => (World.frozen?_of_block (a := ⟨p, i, none⟩) (hc3.block p hp2 hpm)).trans (hfr i)
        row := by
          have := own_chg hr2 hc3 (fun k hk => by
            have : g1 = k := by simpa [Value.ownBlock] using hk
            simp; omega)
          simpa using this
        map := hm3
        pm := h.pm
        pu := by simp [Value.ownBlock]; exact hgp
        mu := by simp [Value.ownBlock]; exact hgm
        nle := by have := h.nle; simp; omega
        mapg := h.mapg.put hx hy hn
        len := by unfold Gr.len at hl ⊢; simp; omega
        bad := h.bad }⟩, fun i hi => ?_⟩, hcw2.trans (T := S) ((chg_drewN w2 k).trans (T := [m]) (Chg.grown hg3 (by simp)) (fun i hi => .inl (by simp at hi; rw [hi]; exact hm))) (Fresh.refl _ _)⟩
    simp at hi
    rcases hi with rfl | rfl | rfl
    · exact .inl hp
    · exact .inl hm
    · exact hgS
  exact ⟨fun k => Classical.choose (key k), fun k => Classical.choose_spec (key k)⟩

set_option maxRecDepth 8000 in
set_option maxHeartbeats 4000000 in
theorem gadd_any {A : Nat → Addr} {v : Value} {S : List Nat} {g : Gr} (w : World) (h : GrM w A v S g) (x y : Int) (hx : in64 x) (hy : in64 y) (hn : (x, y) ∉ g.ands) (hl : g.len < 8000) :
    Calls Tryd.prog 53 #[v, .int .i64 x, .int .i64 y] w fun e w' => e = .returned (.int .i64 (2 * ((g.len : Int) + 1))) ∧ (∃ S', GrM w' A v S' ⟨g.n, g.ands ++ [(x, y)], g.bad⟩ ∧ Fresh w S S') ∧ Chg S w w' := by
  obtain ⟨p, m, u, N, D, h⟩ := h
  obtain rfl := h.val
  obtain ⟨i0, hi, hz0, hz1, hz2⟩ := info_parts infoA
  have HI := Lib.hid (And.intro hi (And.intro hz0 (And.intro hz1 hz2))); clear hi hz0 hz1 hz2
  obtain ⟨ao, co, rfl, hc1, hc2⟩ := row_shape h.row
  have hpl : p < w.heap.size := h.lt p (by rw [h.foot]; simp)
  have hml : m < w.heap.size := h.lt m (by rw [h.foot]; simp)
  have hga : g.ands.length ≤ 8000 := by have := h.len; unfold Gr.len at this; omega
  have HROW : Hid (∀ W, Below w.heap.size w W → W.ownsRow 0 49 2 (.slice ao g.ands.length co) g.ands.length (g.ands.flatMap pcells)) := fun W hW => own_keep h.row hW
  have HP : Hid (∀ W o, Below w.heap.size w W → W.cell? ⟨p, o, none⟩ = w.cell? ⟨p, o, none⟩) := fun W o hW => hW.cell (p := ⟨p, o, none⟩) hpl
  have c1 := h.c1
  have f1 := h.fr 1
  have HA := Lib.hid h
  have HPU := Lib.hid h.pu
  have HMU := Lib.hid h.mu
  clear h hc1 hc2
  have HB0 : Hid (Below w.heap.size w (w.alloc (.cells #[.int .i64 x, .int .i64 y] 49))) := (Below.refl _ w).alloc (Nat.le_refl _) _
  have HSU : Hid (∀ k, (Value.slice ao g.ands.length co).ownBlock = some k → k ∈ S) := fun k hk => by rw [HA.out.foot]; simp [mem_rowB, hk]
  have HNU : Hid (some w.heap.size ≠ (Value.slice ao g.ands.length co).ownBlock) := fun e => by have := (HA.out.row.lt _ e.symm).2; omega
  have HZ : Hid ((((w.alloc (.cells #[.int .i64 x, .int .i64 y] 49)).alloc (.cells #[.int .i64 x, .int .i64 y] 49)).cell? ⟨w.heap.size, 0, none⟩ = some (.int .i64 x)) ∧ (((w.alloc (.cells #[.int .i64 x, .int .i64 y] 49)).alloc (.cells #[.int .i64 x, .int .i64 y] 49)).cell? ⟨w.heap.size, 1, none⟩ = some (.int .i64 y))) := by
    have hb : Below (w.heap.size + 1) (w.alloc (.cells #[.int .i64 x, .int .i64 y] 49)) ((w.alloc (.cells #[.int .i64 x, .int .i64 y] 49)).alloc (.cells #[.int .i64 x, .int .i64 y] 49)) := (Below.refl _ _).alloc (by simp) _
    refine ⟨?_, ?_⟩
    · rw [hb.cell (p := ⟨w.heap.size, 0, none⟩) (by simp), cell_of_row _ _ 0 _ 49 (0, 0) (heap_alloc_new _ _)]; rfl
    · rw [hb.cell (p := ⟨w.heap.size, 1, none⟩) (by simp), cell_of_row _ _ 1 _ 49 (0, 0) (heap_alloc_new _ _)]; rfl
  have HQ := Lib.hid (fun w1 g1 cap => gadd_mid (w := w) (w1 := w1) (x := x) (y := y) g1 cap HA.out hx hy hn hl)
  unfold AddMid at HQ
  have hgl : g.n + (g.ands.length + 1) ≤ 8000 := by have := hl; unfold Gr.len at this; omega
  have HRES : Hid (2 * ((g.len : Int) + 1) = 2 * ((g.n + (g.ands.length + 1) : Nat) : Int)) := by unfold Hid Gr.len; omega
  rw [HRES.out]
  clear HRES
  generalize hga' : g.ands.length = ga at *
  have HGA := Lib.hid hga'; clear hga'
  go_enter Tryd.func53, Tryd.ntmps53
  go_wp2_with fail
  have HNW : Hid (∀ W, Below (w.heap.size + 2) ((w.alloc (.cells #[.int .i64 x, .int .i64 y] 49)).alloc (.cells #[.int .i64 x, .int .i64 y] 49)) W → ∀ j z, (pcells (x, y))[j]? = some z → W.cell? ((⟨w.heap.size + 1, 0, none⟩ : Addr).add j) = some z) := fun W hW j z hj => by
    have hz : (w.alloc (.cells #[.int .i64 x, .int .i64 y] 49)).heap.size = w.heap.size + 1 := by simp
    rw [add0, hW.cell (p := ⟨w.heap.size + 1, j, none⟩) (by simp), ← hz, cell_of_row _ _ j _ 49 (0, 0) (heap_alloc_new _ _)]
    simpa [pcells] using hj
  have hB2 : Below w.heap.size w ((w.alloc (.cells #[.int .i64 x, .int .i64 y] 49)).alloc (.cells #[.int .i64 x, .int .i64 y] 49)) := HB0.out.alloc (by simp) _
  have HB2 := Lib.hid hB2; clear hB2
  go_region_law (first
    | (refine step_append_lies _ rfl _ _ 24 rfl 0 49 i0 _ 2 16 Tryd.underlying24 HI.out.1 HI.out.2.1 HI.out.2.2.1 HI.out.2.2.2 rfl (by decide) (.slice ao ga co) ga (g.ands.flatMap pcells) rfl (HROW.out _ (by first | exact HB2.out | exact HB2.out.drew | exact (HB0.out.drew).alloc (by simp) _)) ⟨w.heap.size + 1, 0, none⟩ 1 1 (pcells (x, y)) rfl rfl (HNW.out _ (by first | exact Below.refl _ _ | exact (Below.refl _ _).drew)) (pcells_one _) (by decide) (by unfold maxLen; omega) (by omega) (Nat.zero_le _) (w.heap.size + 2) (by simp) ?_; intro g1 cap w1 hown1 hgrow1 hat1 hlt1; have hbp : w1.heap[p]? = w.heap[p]? := (hgrow1.block p (by simp; omega) (fun e => HPU.out e.symm)).trans (HB2.out.block p hpl); have c1' := (World.cell?_of_block (a := ⟨p, 1, none⟩) hbp).trans c1; have f1' := (World.frozen?_of_block (a := ⟨p, 1, none⟩) hbp).trans f1; have HW1 := Lib.hid (HQ.out w1 g1 cap hown1 (Chg.trans (T := S) (Chg.of_below (by first | exact HB2.out | exact HB2.out.drew | exact (HB0.out.drew).alloc (by simp) _)) (Chg.of_grown hgrow1 HSU.out) (Fresh.refl _ _)) hbp ((hgrow1.block m (by simp; omega) (fun e => HMU.out e.symm)).trans (HB2.out.block m hml)) ((World.cell?_of_block (a := ⟨w.heap.size, 0, none⟩) (hgrow1.block _ (by simp; omega) HNU.out)).trans HZ.out.1) ((World.cell?_of_block (a := ⟨w.heap.size, 1, none⟩) (hgrow1.block _ (by simp; omega) HNU.out)).trans HZ.out.2) hat1); clear hown1 hgrow1 hat1 hlt1))
  all_goals
    obtain ⟨hL0, f, hf⟩ := HW1.out
    have hL : ∀ W, Below (w1.setCell ⟨p, 1, none⟩ (.slice (some ⟨g1, 0, none⟩) (ga + 1) cap)).heap.size (w1.setCell ⟨p, 1, none⟩ (.slice (some ⟨g1, 0, none⟩) (ga + 1) cap)) W → AddCells W w.heap.size g.n p m ga g1 cap x y := fun W hW => hL0.chg (S := []) (Chg.of_below hW) (by simp) (by simp)
    clear hL0
    clear HROW HP HNW HB2 HB0 hbp c1 f1 f1' c1' HW1 HQ HSU HNU HZ HPU HI HGA hpl hml hn hl
    generalize w1.setCell ⟨p, 1, none⟩ (.slice (some ⟨g1, 0, none⟩) (ga + 1) cap) = w2 at *
    have HF := Lib.hid (fun k => (hf k).2)
    have hrun := fun k => (hf k).1
    clear hf
    have HL := Lib.hid hL
    clear hL
    have hnn : (0 : Int) ≤ ((g.n + (ga + 1) : Nat) : Int) := by omega
    have hnm : ((g.n + (ga + 1) : Nat) : Int) ≤ 8000 := by omega
    generalize hnv : g.n + (ga + 1) = nv at *
    have HLN := Lib.hid (fun W (hW : Below w2.heap.size w2 W) => glen_cells p g.n (ga + 1) cap (some ⟨g1, 0, none⟩) W (HL.out W hW).1 (HL.out W hW).2.1 (by omega))
    have HLM := Lib.hid (fun W (c0 : W.cell? ⟨p, 0, none⟩ = some (.int .i64 (g.n : Int))) (c1 : W.cell? ⟨p, 1, none⟩ = some (.slice (some ⟨g1, 0, none⟩) (ga + 1) cap)) => glen_cells p g.n (ga + 1) cap (some ⟨g1, 0, none⟩) W c0 c1 (by omega))
    rw [hnv] at HLN HLM
    have HNV := Lib.hid hnv
    clear hnv hgl hga
    have HLT := Lib.hid (fun W => glit_any (nv : Int) W hnn (by omega))
    have HK := Lib.hid (fun W hW => (HL.out W hW).2.2)
    have HK3 := Lib.hid (fun k => (HF.out k).1.2.2)
    clear HL
    go_wp2_with fail
    go_region_held3 (fun W => W.cell? ⟨p, 2, none⟩ = some (.map (some m)) ∧ W.cell? ⟨w.heap.size, 0, none⟩ = some (.int .i64 x) ∧ W.cell? ⟨w.heap.size, 1, none⟩ = some (.int .i64 y)) (first | exact HK.out _ (Below.refl _ _) | exact HK.out _ (Below.refl _ _).drew | exact HK.out _ (below_drewN (Below.refl _ _).drew _) | exact HK.out _ (below_drewN (Below.refl _ _) _) | exact HK3.out _) (first
      | (go_at_call 50; refine (HLN.out _ (Below.refl _ _).drew).mono ?_; rintro e w' ⟨rfl, q, rfl⟩)
      | (go_at_call 57; refine (HLT.out _).mono ?_; rintro e w' ⟨rfl, rfl⟩))
    all_goals
      obtain ⟨⟨e0, e1, _⟩, hG, hC⟩ := HF.out (1 + q)
      clear HF HK3 hrun HK HLN
      generalize f (1 + q) = w3 at *
      have HG := Lib.hid (And.intro hG hC)
      clear hG hC
      go_wp2_with (first
        | (go_at_call 50; refine (HLM.out _ e0 e1).mono ?_; rintro e w' ⟨rfl, q2, rfl⟩)
        | (go_at_call 57; refine (HLT.out _).mono ?_; rintro e w' ⟨rfl, rfl⟩))
      go_ret
      obtain ⟨⟨S', hG, hF⟩, hC⟩ := HG.out
      exact ⟨ret_int (by have := HNV.out; omega), ⟨S', hG.below (below_drewN (Below.refl _ _) _), hF⟩, hC.trans (T := S) (chg_drewN _ _) (Fresh.refl _ _)⟩
end Go.Proofs.YtdmhjpofinnpmaaDoor
