/- A graph that is built beside a row of literals ('BSt'), the program's or the document's ('GKind'). Conditions: those typed. -/
import Derived.Test.YtmgepagdkfghlaaDoorRen
import Derived.Test.YtmgepagdkfghlaaDoorRgA
import Derived.Test.YtmgepagdkfghlaaDoorGst
import Derived.Test.YtmgepagdkfghlaaDoorAppS
namespace Go.Proofs.YtmgepagdkfghlaaDoor
open Go.RowKit

structure GKind (G : World → List Nat → Gr → Prop) : Prop where
  keep : ∀ {w w' : World} {S T : List Nat} {g : Gr}, G w S g → Chg T w w' → (∀ i ∈ S, i ∉ T) → G w' S g
  lt : ∀ {w : World} {S : List Nat} {g : Gr}, G w S g → ∀ i ∈ S, i < w.heap.size
theorem grKind (A : Nat → Addr) (v : Value) : GKind (fun W S g => GrM W A v S g) := ⟨fun h => h.keep, fun h => h.lt⟩
theorem rgKind (v : Value) : GKind (fun W S g => RgM W v S g) := ⟨fun h => h.keep, fun h => h.lt⟩
def GPost (G : World → List Nat → Gr → Prop) (w : World) (S : List Nat) (r : Gr × Int) (e : Ending) (w' : World) : Prop :=
  e = .returned (.int .i64 r.2) ∧ (∃ S', G w' S' r.1 ∧ Fresh w S S') ∧ Chg S w w'
structure BAt (G : World → List Nat → Gr → Prop) (B : Nat) (w0 : World) (u : Value) (g : Gr) (bs : List Int) (S : List Nat) (W : World) : Prop where
  gr : G W S g
  row : W.ownsRow B 3 1 u bs.length (bs.map (Value.int .i64))
  bel : Below B w0 W
  sz : B ≤ W.heap.size
  new : ∀ i ∈ S, B ≤ i
  off : ∀ k, u.ownBlock = some k → k ∉ S
def BSt (G : World → List Nat → Gr → Prop) (B : Nat) (w0 : World) (u : Value) (g : Gr) (bs : List Int) (W : World) : Prop := ∃ S, BAt G B w0 u g bs S W

section
variable {G : World → List Nat → Gr → Prop} {B : Nat} {w0 : World} {u : Value} {g : Gr} {bs : List Int} {W : World}
theorem BSt.bel (h : BSt G B w0 u g bs W) : Below B w0 W := by obtain ⟨S, h⟩ := h; exact h.bel
theorem BSt.sz (h : BSt G B w0 u g bs W) : B ≤ W.heap.size := by obtain ⟨S, h⟩ := h; exact h.sz
theorem BSt.row (h : BSt G B w0 u g bs W) : W.ownsRow B 3 1 u bs.length (bs.map (Value.int .i64)) := by obtain ⟨S, h⟩ := h; exact h.row
theorem BSt.keep (hk : GKind G) (h : BSt G B w0 u g bs W) {W' : World} (hb : Below W.heap.size W W') : BSt G B w0 u g bs W' := by
  obtain ⟨S, h⟩ := h
  exact ⟨S, hk.keep h.gr (Chg.of_below (S := []) hb) (by simp), own_keep h.row hb, h.bel.trans (hb.mono h.sz), Nat.le_trans h.sz hb.size, h.new, h.off⟩
theorem BSt.call (h : BSt G B w0 u g bs W) {P : Program} {f : Nat} {args : Array Value} {r : Gr × Int} (hc : ∀ S, G W S g → Calls P f args W (GPost G W S r)) :
    Calls P f args W fun e w' => e = .returned (.int .i64 r.2) ∧ BSt G B w0 u r.1 bs w' := by
  obtain ⟨S, h⟩ := h
  refine (hc S h.gr).mono ?_
  rintro e w' ⟨he, ⟨S', hG, hF⟩, hC⟩
  have hub : ∀ k, u.ownBlock = some k → k < W.heap.size := fun k hu => rowB_lt h.row k (mem_rowB.2 hu)
  exact ⟨he, S', hG, own_chg h.row hC h.off, hC.below h.bel h.sz h.new, Nat.le_trans h.sz hC.size, fun i hi => (hF i hi).elim (h.new i) (fun h' => Nat.le_trans h.sz h'), fun k hu hi => (hF k hi).elim (h.off k hu) (fun h' => absurd (hub k hu) (Nat.not_lt.2 h'))⟩
/-- The same, and what was made behind the graph stands. -/
theorem BSt.callAt (hk : GKind G) (h : BSt G B w0 u g bs W) {W2 : World} (hb2 : Below W.heap.size W W2) {P : Program} {f : Nat} {args : Array Value} {r : Gr × Int} (hc : ∀ S, G W2 S g → Calls P f args W2 (GPost G W2 S r)) :
    Calls P f args W2 fun e w' => e = .returned (.int .i64 r.2) ∧ BSt G B w0 u r.1 bs w' ∧ ∀ q o, W.heap.size ≤ q → q < W2.heap.size → w'.cell? ⟨q, o, none⟩ = W2.cell? ⟨q, o, none⟩ := by
  obtain ⟨S, h⟩ := h
  have hW : BAt G B w0 u g bs S W2 := ⟨hk.keep h.gr (Chg.of_below (S := []) hb2) (by simp), own_keep h.row hb2, h.bel.trans (hb2.mono h.sz), Nat.le_trans h.sz hb2.size, h.new, h.off⟩
  refine (hc S hW.gr).mono ?_
  rintro e w' ⟨he, ⟨S', hG, hF⟩, hC⟩
  have hub : ∀ k, u.ownBlock = some k → k < W2.heap.size := fun k hu => rowB_lt hW.row k (mem_rowB.2 hu)
  exact ⟨he, ⟨S', hG, own_chg hW.row hC h.off, hC.below hW.bel hW.sz h.new, Nat.le_trans hW.sz hC.size, fun i hi => (hF i hi).elim (h.new i) (fun h' => Nat.le_trans hW.sz h'), fun k hu hi => (hF k hi).elim (h.off k hu) (fun h' => absurd (hub k hu) (Nat.not_lt.2 h'))⟩,
    fun q o hq hl => hC.cell hl fun hm => absurd (hk.lt h.gr q hm) (Nat.not_lt.2 hq)⟩
theorem BSt.app (hk : GKind G) (h : BSt G B w0 u g bs W) {w' : World} {u' : Value} {y : Int} (hown : w'.ownsRow B 3 1 u' (bs.length + 1) ((bs ++ [y]).map (Value.int .i64))) (hap : App B W w' u u') : BSt G B w0 u' g (bs ++ [y]) w' := by
  obtain ⟨S, h⟩ := h
  have hc : Chg (rowB u) W w' := Chg.app hap fun k hu => mem_rowB.2 hu
  refine ⟨S, hk.keep h.gr hc (fun i hi hm => h.off i (mem_rowB.1 hm) hi), by simpa using hown, h.bel.trans hap.below, Nat.le_trans h.sz hc.size, h.new, fun k hu hi => ?_⟩
  rcases hap.blk with e | ⟨q, e, hq⟩
  · exact h.off k (e ▸ hu) hi
  · rw [e] at hu
    injection hu with hu
    have := hk.lt h.gr k hi
    omega
theorem BSt.start (hk : GKind G) {S : List Nat} (hg : G W S g) (hn : ∀ i ∈ S, B ≤ i) (hb : Below B w0 W) (hs : B ≤ W.heap.size) (y : Int) : BSt G B w0 (.slice (some ⟨W.heap.size, 0, none⟩) 1 1) g [y] (W.alloc (.cells #[.int .i64 y] 3)) :=
  ⟨S, hk.keep hg (Chg.of_below (S := []) ((Below.refl _ _).alloc (Nat.le_refl _) _)) (by simp), own_lit1 W B y hs, hb.alloc hs _, Nat.le_trans hs ((Below.refl _ W).alloc (Nat.le_refl _) _).size, hn, fun k hu hi => by
    have := hk.lt hg k hi
    simp [Value.ownBlock] at hu
    omega⟩
end

theorem lit_cells (W : World) (z : Int) : ∀ j u, [Value.int .i64 z][j]? = some u → (W.alloc (.cells #[.int .i64 z] 3)).cell? ((⟨W.heap.size, 0, none⟩ : Addr).add j) = some u := by
  intro j u hj
  match j, hj with
  | 0, hj => simp at hj; subst hj; simp [Addr.add]
theorem lit_one (z : Int) : ∀ u ∈ [Value.int .i64 z], u.oneCell' = true := by
  intro u hu
  simp at hu
  subst hu
  rfl
theorem newG_at (N : Nat) (h : N ≤ 8000) : newG (N : Int) = ⟨N, [], 0⟩ := by unfold newG; rw [show (min (max (N : Int) 0) 8000).toNat = N by omega]
theorem inG_at (N k : Nat) (h : k < N) : inG ⟨N, [], 0⟩ (k : Int) = (⟨N, [], 0⟩, 2 * ((k : Int) + 1)) := by unfold inG; rw [if_pos (show 0 ≤ (k : Int) ∧ (k : Int) < (((⟨N, [], 0⟩ : Gr).n : Nat) : Int) from ⟨by omega, by show (k : Int) < (N : Int); omega⟩)]
theorem outs_snoc (bs os : List Int) (k : Nat) (h : k < os.length) : (os.take (k + 1)).map (renL bs) = (os.take k).map (renL bs) ++ [renL bs (os.getD k 0)] := by
  rw [take_snoc os k h, List.map_append]; rfl
end Go.Proofs.YtmgepagdkfghlaaDoor
