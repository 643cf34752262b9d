/- A graph of the call's own, as the statements use it ('GSt'): what each call on it answers and leaves; skolemlaw8.first answers true. Conditions: the two errors lie as 'Sents2' says; the numbers are 64-bit ints. -/
import Derived.Test.YtdmhjpofinnpmaaDoorGrI
namespace Go.Proofs.YtdmhjpofinnpmaaDoor
open Go.RowKit

/-- In W, since w0, there is the program's graph g behind v; nothing that was there in w0 has turned. -/
def GSt (w0 : World) (A : Nat → Addr) (v : Value) (g : Gr) (W : World) : Prop := ∃ S, GrM W A v S g ∧ Below w0.heap.size w0 W ∧ ∀ i ∈ S, w0.heap.size ≤ i
theorem GSt.bel {w0 : World} {A : Nat → Addr} {v : Value} {g : Gr} {W : World} (h : GSt w0 A v g W) : Below w0.heap.size w0 W := by
  obtain ⟨S, _, h, _⟩ := h
  exact h
theorem GSt.ptr {w0 : World} {A : Nat → Addr} {v : Value} {g : Gr} {W : World} (h : GSt w0 A v g W) : ∃ p, v = .pointer (some ⟨p, 0, none⟩) := by
  obtain ⟨S, ⟨p, m, u, N, D, h⟩, _⟩ := h
  exact ⟨p, h.val⟩
theorem GSt.len {w0 : World} {A : Nat → Addr} {v : Value} {g : Gr} {W : World} (h : GSt w0 A v g W) : g.len ≤ 8000 := by
  obtain ⟨S, ⟨p, m, u, N, D, h⟩, _⟩ := h
  exact h.len
theorem GSt.keep {w0 : World} {A : Nat → Addr} {v : Value} {g : Gr} {W W' : World} (h : GSt w0 A v g W) (hb : Below W.heap.size W W') : GSt w0 A v g W' := by
  obtain ⟨S, h1, h2, h3⟩ := h
  exact ⟨S, h1.below hb, h2.trans (hb.mono h2.size), h3⟩
theorem GSt.post {w0 : World} {A : Nat → Addr} {v : Value} {S : List Nat} {r : Gr × Int} {W w' : World} {e : Ending} (h : GrPost W A v S r e w') (hb : Below w0.heap.size w0 W) (hS : ∀ i ∈ S, w0.heap.size ≤ i) : e = .returned (.int .i64 r.2) ∧ GSt w0 A v r.1 w' := by
  obtain ⟨he, ⟨S', hG, hF⟩, hC⟩ := h
  exact ⟨he, S', hG, hC.below hb hb.size hS, fun i hi => (hF i hi).elim (hS i) (fun h' => Nat.le_trans hb.size h')⟩

theorem gsAnd {w0 : World} {A : Nat → Addr} {v : Value} {g : Gr} {W : World} (hs : Sents2 w0 A) (h : GSt w0 A v g W) (a b : Int) (ha : in64 a) (hb : in64 b) :
    Calls Tryd.prog 41 #[v, .int .i64 a, .int .i64 b] W fun e w' => e = .returned (.int .i64 (andG g a b).2) ∧ GSt w0 A v (andG g a b).1 w' := by
  obtain ⟨S, h1, h2, h3⟩ := h
  exact (gand_any W h1 (hs.keep h2) a b ha hb).mono fun e w' hp => GSt.post hp h2 h3

theorem gsLen {w0 : World} {A : Nat → Addr} {v : Value} {g : Gr} {W : World} (h : GSt w0 A v g W) :
    Calls Tryd.prog 50 #[v] W fun e w' => e = .returned (.int .i64 (g.len : Int)) ∧ GSt w0 A v g w' := by
  obtain ⟨S, h1, h2, h3⟩ := h
  refine (glen_any W h1).mono ?_
  rintro e w' ⟨he, n, rfl⟩
  exact ⟨he, S, h1.below (below_drewN (Below.refl _ _) n), below_drewN h2 n, h3⟩

theorem gsErr {w0 : World} {A : Nat → Addr} {v : Value} {g : Gr} {W : World} (h : GSt w0 A v g W) :
    Calls Tryd.prog 32 #[v] W fun e w' => e = .returned (errC A g.bad) ∧ W = w' := by
  obtain ⟨S, h1, h2, h3⟩ := h
  exact gerr_any W h1
theorem gsNew {w0 : World} (A : Nat → Addr) {W : World} (hb : Below w0.heap.size w0 W) (n : Int) (hn : in64 n) :
    Calls Tryd.prog 23 #[.int .i64 n] W fun e w' => ∃ v, e = .returned v ∧ GSt w0 A v (newG n) w' := by
  refine (gnew_any A n W hn.1 hn.2).mono ?_
  rintro e w' ⟨⟨v, S, he, hG, hS⟩, hw⟩
  exact ⟨v, he, S, hG, hb.trans (hw.mono hb.size), fun i hi => Nat.le_trans hb.size (hS i hi)⟩

end Go.Proofs.YtdmhjpofinnpmaaDoor
