/- The program's graph and the document's side by side ('PSt'): what each call answers and leaves. Conditions: the two errors lie as 'Sents2' says; the numbers are 64-bit ints. -/
import Derived.Test.YtbighmmjmklioaaDoorGst
import Derived.Test.YtbighmmjmklioaaDoorRgA
import Derived.Test.YtbighmmjmklioaaDoorRgCir
import Derived.Test.YtbighmmjmklioaaDoorFault
namespace Go.Proofs.YtbighmmjmklioaaDoor
open Go.RowKit

def ptrV (p : Nat) : Value := .pointer (some ⟨p, 0, none⟩)
/-- In W, since w0, there are the program's graph g at p and the document's r at q; nothing that was there in w0 has turned. -/
def PSt (w0 : World) (A : Nat → Addr) (p q : Nat) (g r : Gr) (W : World) : Prop :=
  ∃ S T, GrM W A (ptrV p) S g ∧ RgM W (ptrV q) T r ∧ Below w0.heap.size w0 W ∧ (∀ i ∈ S, w0.heap.size ≤ i) ∧ (∀ i ∈ T, w0.heap.size ≤ i) ∧ ∀ i ∈ S, i ∉ T
theorem PSt.bel {w0 : World} {A : Nat → Addr} {p q : Nat} {g r : Gr} {W : World} (h : PSt w0 A p q g r W) : Below w0.heap.size w0 W := by
  obtain ⟨S, T, _, _, h, _⟩ := h
  exact h
theorem PSt.keep {w0 : World} {A : Nat → Addr} {p q : Nat} {g r : Gr} {W W' : World} (h : PSt w0 A p q g r W) (hb : Below W.heap.size W W') : PSt w0 A p q g r W' := by
  obtain ⟨S, T, h1, h2, h3, h4, h5, h6⟩ := h
  exact ⟨S, T, h1.below hb, h2.below hb, h3.trans (hb.mono h3.size), h4, h5, h6⟩
theorem PSt.rcells {w0 : World} {A : Nat → Addr} {p q : Nat} {g r : Gr} {W : World} (h : PSt w0 A p q g r W) : W.cell? ⟨q, 0, none⟩ = some (.int .i64 (r.n : Int)) ∧ W.cell? ⟨q, 2, none⟩ = some (.int .i64 r.bad) := by
  obtain ⟨S, T, h1, ⟨q', u, h2⟩, _⟩ := h
  have := h2.val
  unfold ptrV at this
  injection this with this
  injection this with this
  injection this with this
  subst this
  exact ⟨h2.c0, h2.c2⟩
theorem PSt.len {w0 : World} {A : Nat → Addr} {p q : Nat} {g r : Gr} {W : World} (h : PSt w0 A p q g r W) : g.len ≤ 8000 ∧ badC g.bad ∧ badC r.bad := by
  obtain ⟨S, T, ⟨_, _, _, _, _, h1⟩, ⟨_, _, h2⟩, _⟩ := h
  exact ⟨h1.len, h1.bad, h2.bad⟩
theorem PSt.post {w0 : World} {A : Nat → Addr} {p q : Nat} {S T : List Nat} {o : Gr × Int} {r : Gr} {W w' : World} {e : Ending} (h : GrPost W A (ptrV p) S o e w') (hr : RgM W (ptrV q) T r) (hb : Below w0.heap.size w0 W) (hS : ∀ i ∈ S, w0.heap.size ≤ i) (hT : ∀ i ∈ T, w0.heap.size ≤ i) (hd : ∀ i ∈ S, i ∉ T) : e = .returned (.int .i64 o.2) ∧ PSt w0 A p q o.1 r w' := by
  obtain ⟨he, ⟨S', hG, hF⟩, hC⟩ := h
  exact ⟨he, S', T, hG, hr.keep hC (fun i hi hm => hd i hm hi), hC.below hb hb.size hS, fun i hi => (hF i hi).elim (hS i) (fun h' => Nat.le_trans hb.size h'), hT, fun i hi => (hF i hi).elim (hd i) (fun h' hm => absurd (hr.lt i hm) (Nat.not_lt.2 h'))⟩
theorem PSt.rpost {w0 : World} {A : Nat → Addr} {p q : Nat} {S T : List Nat} {o : Gr × Int} {g : Gr} {W w' : World} {e : Ending} (h : RgPost W (ptrV q) T o e w') (hg : GrM W A (ptrV p) S g) (hb : Below w0.heap.size w0 W) (hS : ∀ i ∈ S, w0.heap.size ≤ i) (hT : ∀ i ∈ T, w0.heap.size ≤ i) (hd : ∀ i ∈ S, i ∉ T) : e = .returned (.int .i64 o.2) ∧ PSt w0 A p q g o.1 w' := by
  obtain ⟨he, ⟨T', hG, hF⟩, hC⟩ := h
  exact ⟨he, S, T', hg.keep hC hd, hG, hC.below hb hb.size hT, hS, fun i hi => (hF i hi).elim (hT i) (fun h' => Nat.le_trans hb.size h'), fun i hi hm => (hF i hm).elim (hd i hi) (fun h' => absurd (hg.lt i hi) (Nat.not_lt.2 h'))⟩

section
variable {w0 : World} {A : Nat → Addr} {p q : Nat} {g r : Gr} {W : World}
theorem psAnd (hs : Sents2 w0 A) (h : PSt w0 A p q g r W) (a b : Int) (ha : in64 a) (hb : in64 b) :
    Calls Tryd.prog 35 #[ptrV p, .int .i64 a, .int .i64 b] W fun e w' => e = .returned (.int .i64 (andG g a b).2) ∧ PSt w0 A p q (andG g a b).1 r w' := by
  obtain ⟨S, T, h1, h2, h3, h4, h5, h6⟩ := h
  exact (gand_any W h1 (hs.keep h3) a b ha hb).mono fun e w' hp => PSt.post hp h2 h3 h4 h5 h6
theorem psRAnd (h : PSt w0 A p q g r W) (a b : Int) (ha : in64 a) (hb : in64 b) :
    Calls Tryd.prog 48 #[ptrV q, .int .i64 a, .int .i64 b] W fun e w' => e = .returned (.int .i64 (andG r a b).2) ∧ PSt w0 A p q g (andG r a b).1 w' := by
  obtain ⟨S, T, h1, h2, h3, h4, h5, h6⟩ := h
  exact (rand_any W h2 a b ha hb).mono fun e w' hp => PSt.rpost hp h1 h3 h4 h5 h6
theorem psIn (hs : Sents2 w0 A) (h : PSt w0 A p q g r W) (i : Int) (hi : in64 i) :
    Calls Tryd.prog 64 #[ptrV p, .int .i64 i] W fun e w' => e = .returned (.int .i64 (inG g i).2) ∧ PSt w0 A p q (inG g i).1 r w' := by
  obtain ⟨S, T, h1, h2, h3, h4, h5, h6⟩ := h
  exact (gin_any W h1 (hs.keep h3) i hi).mono fun e w' hp => PSt.post hp h2 h3 h4 h5 h6
theorem psRIn (h : PSt w0 A p q g r W) (i : Int) (hi : in64 i) :
    Calls Tryd.prog 52 #[ptrV q, .int .i64 i] W fun e w' => e = .returned (.int .i64 (inG r i).2) ∧ PSt w0 A p q g (inG r i).1 w' := by
  obtain ⟨S, T, h1, h2, h3, h4, h5, h6⟩ := h
  exact (rin_any W h2 i hi.1 hi.2).mono fun e w' hp => PSt.rpost hp h1 h3 h4 h5 h6
theorem psLen (h : PSt w0 A p q g r W) :
    Calls Tryd.prog 34 #[ptrV p] W fun e w' => e = .returned (.int .i64 (g.len : Int)) ∧ ∃ n, w' = W.drewN n := by
  obtain ⟨S, T, h1, _⟩ := h
  exact glen_any W h1
theorem psRLen (h : PSt w0 A p q g r W) :
    Calls Tryd.prog 11 #[ptrV q] W fun e w' => e = .returned (.int .i64 (r.len : Int)) ∧ ∃ n, w' = W.drewN n := by
  obtain ⟨S, T, h1, h2, _⟩ := h
  exact rlen_any W h2
theorem psErr (h : PSt w0 A p q g r W) :
    Calls Tryd.prog 29 #[ptrV p] W fun e w' => e = .returned (errC A g.bad) ∧ W = w' := by
  obtain ⟨S, T, h1, _⟩ := h
  exact gerr_any W h1

theorem psCirc (h : PSt w0 A p q g r W) (o : Value) (os : List Int) (ho : Row W o os) (hn : os.length ≤ 1000000) :
    Calls Tryd.prog 27 #[ptrV p, o] W (CirPost W (g.n : Int) g.ands os) := by
  obtain ⟨S, T, h1, _⟩ := h
  exact gcirc_any W h1 o os ho hn
theorem psRCirc (h : PSt w0 A p q g r W) (o : Value) (os : List Int) (ho : Row W o os) (hn : os.length ≤ 1000000) :
    Calls Tryd.prog 28 #[ptrV q, o] W (CirPost W (r.n : Int) r.ands os) := by
  obtain ⟨S, T, h1, h2, _⟩ := h
  exact rcirc_any W h2 o os ho hn
end
theorem PSt.start {w0 : World} {A : Nat → Addr} {p : Nat} {v : Value} {T : List Nat} {g r : Gr} {W W' : World} (h : GSt w0 A (ptrV p) g W) (hb : Below W.heap.size W W') (hr : RgM W' v T r) (hT : ∀ i ∈ T, W.heap.size ≤ i) : ∃ q, v = ptrV q ∧ PSt w0 A p q g r W' := by
  obtain ⟨S, h1, h2, h3⟩ := h
  obtain ⟨q, u, hq⟩ := hr
  have hv := hq.val
  subst hv
  exact ⟨q, rfl, S, T, h1.below hb, ⟨q, u, hq⟩, h2.trans (hb.mono h2.size), h3, fun i hi => Nat.le_trans h2.size (hT i hi), fun i hi hm => absurd (h1.lt i hi) (Nat.not_lt.2 (hT i hm))⟩
theorem errAs_code {A : Nat → Addr} {w : World} (h : Sents w A) (c : Int) (hc : badC c) : ErrAs w (errC A c) c false 0 := by
  rcases hc with rfl | rfl | rfl
  · exact errAs_nil w
  · exact errAs_sent h 1 (by decide)
  · exact errAs_sent h 3 (by decide)
end Go.Proofs.YtbighmmjmklioaaDoor
