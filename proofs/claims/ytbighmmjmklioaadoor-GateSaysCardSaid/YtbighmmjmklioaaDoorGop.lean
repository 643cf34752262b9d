/- Calls on a graph that lies anywhere ('GIn': since w, at the footprint S), the program's or the document's ('GOp'); the same beside a row of ints that grows ('GRow'). Conditions: those typed. -/
import Derived.Test.YtbighmmjmklioaaDoorBst
import Derived.Test.YtbighmmjmklioaaDoorGwC
namespace Go.Proofs.YtbighmmjmklioaaDoor
open Go.RowKit

/-- In W, since w, there is the graph g; only what lay in S has turned. -/
def GIn (G : World → List Nat → Gr → Prop) (w : World) (S : List Nat) (g : Gr) (W : World) : Prop := (∃ S', G W S' g ∧ Fresh w S S') ∧ Chg S w W
structure GOp (G : World → List Nat → Gr → Prop) (E : World → List Nat → Prop) (v : Value) (fA fI : Nat) : Prop where
  kind : GKind G
  len : ∀ {W : World} {S : List Nat} {g : Gr}, G W S g → g.len ≤ 8000
  and : ∀ {W : World} {S : List Nat} {g : Gr}, E W S → G W S g → ∀ a b, in64 a → in64 b → Calls Tryd.prog fA #[v, .int .i64 a, .int .i64 b] W (GPost G W S (andG g a b))
  inp : ∀ {W : World} {S : List Nat} {g : Gr}, E W S → G W S g → ∀ i, in64 i → Calls Tryd.prog fI #[v, .int .i64 i] W (GPost G W S (inG g i))
  env : ∀ {w W : World} {S S' : List Nat}, E w S → Chg S w W → Fresh w S S' → E W S'
theorem in64_of {x : Int} (h0 : 0 ≤ x) (h1 : x ≤ 100000) : in64 x := ⟨by omega, by omega⟩
theorem andG_bd {g : Gr} (h : g.len ≤ 8000) (a b : Int) : 0 ≤ (andG g a b).2 ∧ (andG g a b).2 ≤ 16001 ∧ (andG g a b).1.len ≤ 8000 := by
  have h1 := (isB_iff _ _).1 (andG_lit g a b)
  have h2 := (andG_grow g a b).2.2.1 h
  omega

section
variable {G : World → List Nat → Gr → Prop} {E : World → List Nat → Prop} {v : Value} {fA fI : Nat} {w W : World} {S : List Nat} {g : Gr}
theorem GIn.refl (h : G w S g) : GIn G w S g w := ⟨⟨S, h, Fresh.refl _ _⟩, Chg.refl _ _⟩
theorem GIn.keep (hk : GKind G) (h : GIn G w S g W) {W' : World} (hb : Below W.heap.size W W') : GIn G w S g W' := by
  obtain ⟨⟨S', hG, hF⟩, hC⟩ := h
  exact ⟨⟨S', hk.keep hG (Chg.of_below (S := []) hb) (by simp), hF⟩, hC.trans (Chg.of_below (S := []) hb) (fun i hi => by cases hi)⟩
theorem GIn.call (H : GOp G E v fA fI) (hE : E w S) (h : GIn G w S g W) {P : Program} {f : Nat} {args : Array Value} {r : Gr × Int} (hc : ∀ S', E W S' → G W S' g → Fresh w S S' → Calls P f args W (GPost G W S' r)) :
    Calls P f args W fun e w' => e = .returned (.int .i64 r.2) ∧ GIn G w S r.1 w' := by
  obtain ⟨⟨S', hG, hF⟩, hC⟩ := h
  refine (hc S' (H.env hE hC hF) hG hF).mono ?_
  rintro e w' ⟨he, ⟨S'', hG', hF'⟩, hC'⟩
  exact ⟨he, ⟨S'', hG', hF.trans hF' hC.size⟩, hC.trans hC' hF⟩
theorem GIn.len (H : GOp G E v fA fI) (h : GIn G w S g W) : g.len ≤ 8000 := by
  obtain ⟨⟨S', hG, hF⟩, hC⟩ := h
  exact H.len hG
theorem GOp.gand (H : GOp G E v fA fI) (hE : E w S) (h : GIn G w S g W) (a b : Int) (ha : in64 a) (hb : in64 b) :
    Calls Tryd.prog fA #[v, .int .i64 a, .int .i64 b] W fun e w' => e = .returned (.int .i64 (andG g a b).2) ∧ GIn G w S (andG g a b).1 w' :=
  h.call H hE fun _ hE' hG _ => H.and hE' hG a b ha hb
theorem GOp.ginp (H : GOp G E v fA fI) (hE : E w S) (h : GIn G w S g W) (i : Int) (hi : in64 i) :
    Calls Tryd.prog fI #[v, .int .i64 i] W fun e w' => e = .returned (.int .i64 (inG g i).2) ∧ GIn G w S (inG g i).1 w' :=
  h.call H hE fun _ hE' hG _ => H.inp hE' hG i hi
theorem GIn.off {b : Nat} (h : GIn G w S g W) (hb : b < w.heap.size) (hn : b ∉ S) : W.heap[b]? = w.heap[b]? := h.2.block b hb hn
/-- A row of ints is off a footprint. -/
def OffI (w : World) (S : List Nat) (v : Value) (xs : List Int) : Prop := ∃ a c, v = .slice a xs.length c ∧ xs.length ≤ c ∧ c ≤ maxLen ∧ (xs.length = 0 ∨ ∃ b off, a = some ⟨b, off, none⟩ ∧ b < w.heap.size ∧ b ∉ S ∧ ∀ i, i < xs.length → w.cell? ⟨b, off + i, none⟩ = some (.int .i64 (xs.getD i 0)))
theorem OffI.row {xs : List Int} {u : Value} (h : OffI w S u xs) (hC : Chg S w W) : Row W u xs := by
  obtain ⟨a, c, e, h1, h2, h3⟩ := h
  refine ⟨a, c, e, h1, h2, h3.imp id ?_⟩
  rintro ⟨b, off, ha, hb, hn, hc⟩
  exact ⟨b, off, ha, Nat.lt_of_lt_of_le hb hC.size, fun i hi => (hC.cell hb hn).trans (hc i hi)⟩
theorem OffI.later {xs : List Int} {u : Value} {S' : List Nat} (h : OffI w S u xs) (hC : Chg S w W) (hF : Fresh w S S') : OffI W S' u xs := by
  obtain ⟨a, c, e, h1, h2, h3⟩ := h
  refine ⟨a, c, e, h1, h2, h3.imp id ?_⟩
  rintro ⟨b, off, ha, hb, hn, hc⟩
  exact ⟨b, off, ha, Nat.lt_of_lt_of_le hb hC.size, fun hm => (hF b hm).elim hn fun h' => absurd hb (Nat.not_lt.2 h'), fun i hi => (hC.cell hb hn).trans (hc i hi)⟩
theorem OffI.of_row {xs : List Int} {u : Value} (h : Row w u xs) (hn : ∀ a k c, u = .slice (some a) k c → a.block ∉ S) : OffI w S u xs := by
  obtain ⟨a, c, e, h1, h2, h3⟩ := h
  refine ⟨a, c, e, h1, h2, h3.imp id ?_⟩
  rintro ⟨b, off, ha, hb, hc⟩
  subst ha
  exact ⟨b, off, rfl, hb, hn _ _ _ e, hc⟩
theorem OffI.of_own {xs : List Int} {u : Value} {B n : Nat} {e : TypeId} (h : w.ownsRow B e 1 u n (xs.map (Value.int .i64))) (hn : ∀ i ∈ S, i < B) : OffI w S u xs := by
  have hb := h.lt
  refine OffI.of_row (own_row h) fun a k c e hm => ?_
  rcases h.2 with ⟨e0, _⟩ | ⟨g, cap, cur, hv, hg, _⟩
  · rw [e0] at e; cases e
  · rw [hv] at e
    injection e with e _ _
    injection e with e
    have := hn _ hm
    rw [← e] at this
    simp only at this
    omega
theorem OffI.of_own' {xs : List Int} {u : Value} {B n : Nat} {e : TypeId} (h : w.ownsRow B e 1 u n (xs.map (Value.int .i64))) (hn : ∀ k, u.ownBlock = some k → k ∉ S) : OffI w S u xs := by
  refine OffI.of_row (own_row h) fun a k c e => ?_
  rcases h.2 with ⟨e0, _⟩ | ⟨g, cap, cur, hv, hg, _⟩
  · rw [e0] at e; cases e
  · subst hv
    injection e with e _ _
    injection e with e
    rw [← e]
    exact hn g rfl

/-- A graph beside a row of the call's own. -/
structure GRowAt (G : World → List Nat → Gr → Prop) (w : World) (S : List Nat) (g : Gr) (u : Value) (xs : List Int) (S' : List Nat) (W : World) : Prop where
  gr : G W S' g
  fresh : Fresh w S S'
  chg : Chg S w W
  row : W.ownsRow w.heap.size 3 1 u xs.length (xs.map (Value.int .i64))
  off : ∀ k, u.ownBlock = some k → k ∉ S'
def GRow (G : World → List Nat → Gr → Prop) (w : World) (S : List Nat) (g : Gr) (u : Value) (xs : List Int) (W : World) : Prop := ∃ S', GRowAt G w S g u xs S' W
theorem GRow.start (h : G w S g) : GRow G w S g (.slice none 0 0) [] w := ⟨S, h, Fresh.refl _ _, Chg.refl _ _, World.ownsRow_nil _ _ _ _, fun k hk => by cases hk⟩
variable {u : Value} {xs : List Int}
theorem GRow.row (h : GRow G w S g u xs W) : W.ownsRow w.heap.size 3 1 u xs.length (xs.map (Value.int .i64)) := by obtain ⟨S', h⟩ := h; exact h.row
theorem GRow.chg (h : GRow G w S g u xs W) : Chg S w W := by obtain ⟨S', h⟩ := h; exact h.chg
theorem GRow.gin (h : GRow G w S g u xs W) : GIn G w S g W := by obtain ⟨S', h⟩ := h; exact ⟨⟨S', h.gr, h.fresh⟩, h.chg⟩
theorem GRow.call (H : GOp G E v fA fI) (hE : E w S) (h : GRow G w S g u xs W) {P : Program} {f : Nat} {args : Array Value} {r : Gr × Int} (hc : ∀ S', E W S' → G W S' g → Fresh w S S' → Calls P f args W (GPost G W S' r)) :
    Calls P f args W fun e w' => e = .returned (.int .i64 r.2) ∧ GRow G w S r.1 u xs w' := by
  obtain ⟨S', h⟩ := h
  refine (hc S' (H.env hE h.chg h.fresh) h.gr h.fresh).mono ?_
  rintro e w' ⟨he, ⟨S'', hG', hF'⟩, hC'⟩
  have hub : ∀ k, u.ownBlock = some k → k < W.heap.size := fun k hu => rowB_lt h.row k (mem_rowB.2 hu)
  exact ⟨he, S'', hG', h.fresh.trans hF' h.chg.size, h.chg.trans hC' h.fresh, own_chg h.row hC' h.off, fun k hu hi => (hF' k hi).elim (h.off k hu) fun h' => absurd (hub k hu) (Nat.not_lt.2 h')⟩
theorem GRow.keep (hk : GKind G) (h : GRow G w S g u xs W) {W' : World} (hb : Below W.heap.size W W') : GRow G w S g u xs W' := by
  obtain ⟨S', h⟩ := h
  exact ⟨S', hk.keep h.gr (Chg.of_below (S := []) hb) (by simp), h.fresh, h.chg.trans (Chg.of_below (S := []) hb) (fun i hi => by cases hi), own_keep h.row hb, h.off⟩
theorem GRow.app (hk : GKind G) (h : GRow G w S g u xs W) {w' : World} {u' : Value} {y : Int} (hown : w'.ownsRow w.heap.size 3 1 u' (xs.length + 1) ((xs ++ [y]).map (Value.int .i64))) (hap : App w.heap.size W w' u u') : GRow G w S g u' (xs ++ [y]) w' := by
  obtain ⟨S', h⟩ := h
  have hc : Chg (rowB u) W w' := Chg.app hap fun k hu => mem_rowB.2 hu
  have hlt : ∀ i ∈ rowB u, w.heap.size ≤ i := fun i hi => (h.row.lt i (mem_rowB.1 hi)).1
  refine ⟨S', hk.keep h.gr hc (fun i hi hm => h.off i (mem_rowB.1 hm) hi), h.fresh, h.chg.trans hc (fun i hi => .inr (hlt i hi)), by simpa using hown, fun k hu hi => ?_⟩
  rcases hap.blk with e | ⟨q, e, hq⟩
  · exact h.off k (e ▸ hu) hi
  · rw [e] at hu
    injection hu with hu
    have := hk.lt h.gr k hi
    omega
end
end Go.Proofs.YtbighmmjmklioaaDoor
