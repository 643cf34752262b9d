/- A graph of the call's own, as the statements use it ('GSt'): what each call on it answers and leaves; skolemlaw8.first answers true. Conditions: the two errors lie as 'Sents2' says; the numbers are 64-bit ints. -/
import Derived.Test.YtbighmmjmklioaaDoorGrI
namespace Go.Proofs.YtbighmmjmklioaaDoor
open Go.RowKit

/-- In W, since w0, there is the program's graph g behind v; nothing that was there in w0 has turned. -/
def GSt (w0 : World) (A : Nat → Addr) (v : Value) (g : Gr) (W : World) : Prop := ∃ S, GrM W A v S g ∧ Below w0.heap.size w0 W ∧ ∀ i ∈ S, w0.heap.size ≤ i
theorem GSt.bel {w0 : World} {A : Nat → Addr} {v : Value} {g : Gr} {W : World} (h : GSt w0 A v g W) : Below w0.heap.size w0 W := by
  obtain ⟨S, _, h, _⟩ := h
  exact h
theorem GSt.ptr {w0 : World} {A : Nat → Addr} {v : Value} {g : Gr} {W : World} (h : GSt w0 A v g W) : ∃ p, v = .pointer (some ⟨p, 0, none⟩) := by
  obtain ⟨S, ⟨p, m, u, N, D, h⟩, _⟩ := h
  exact ⟨p, h.val⟩
theorem GSt.len {w0 : World} {A : Nat → Addr} {v : Value} {g : Gr} {W : World} (h : GSt w0 A v g W) : g.len ≤ 8000 := by
  obtain ⟨S, ⟨p, m, u, N, D, h⟩, _⟩ := h
  exact h.len
theorem GSt.keep {w0 : World} {A : Nat → Addr} {v : Value} {g : Gr} {W W' : World} (h : GSt w0 A v g W) (hb : Below W.heap.size W W') : GSt w0 A v g W' := by
  obtain ⟨S, h1, h2, h3⟩ := h
  exact ⟨S, h1.below hb, h2.trans (hb.mono h2.size), h3⟩
theorem GSt.post {w0 : World} {A : Nat → Addr} {v : Value} {S : List Nat} {r : Gr × Int} {W w' : World} {e : Ending} (h : GrPost W A v S r e w') (hb : Below w0.heap.size w0 W) (hS : ∀ i ∈ S, w0.heap.size ≤ i) : e = .returned (.int .i64 r.2) ∧ GSt w0 A v r.1 w' := by
  obtain ⟨he, ⟨S', hG, hF⟩, hC⟩ := h
  exact ⟨he, S', hG, hC.below hb hb.size hS, fun i hi => (hF i hi).elim (hS i) (fun h' => Nat.le_trans hb.size h')⟩
theorem gsAnd {w0 : World} {A : Nat → Addr} {v : Value} {g : Gr} {W : World} (hs : Sents2 w0 A) (h : GSt w0 A v g W) (a b : Int) (ha : in64 a) (hb : in64 b) :
    Calls Tryd.prog 35 #[v, .int .i64 a, .int .i64 b] W fun e w' => e = .returned (.int .i64 (andG g a b).2) ∧ GSt w0 A v (andG g a b).1 w' := by
  obtain ⟨S, h1, h2, h3⟩ := h
  exact (gand_any W h1 (hs.keep h2) a b ha hb).mono fun e w' hp => GSt.post hp h2 h3
theorem gsIn {w0 : World} {A : Nat → Addr} {v : Value} {g : Gr} {W : World} (hs : Sents2 w0 A) (h : GSt w0 A v g W) (i : Int) (hi : in64 i) :
    Calls Tryd.prog 64 #[v, .int .i64 i] W fun e w' => e = .returned (.int .i64 (inG g i).2) ∧ GSt w0 A v (inG g i).1 w' := by
  obtain ⟨S, h1, h2, h3⟩ := h
  exact (gin_any W h1 (hs.keep h2) i hi).mono fun e w' hp => GSt.post hp h2 h3
theorem gsLen {w0 : World} {A : Nat → Addr} {v : Value} {g : Gr} {W : World} (h : GSt w0 A v g W) :
    Calls Tryd.prog 34 #[v] W fun e w' => e = .returned (.int .i64 (g.len : Int)) ∧ GSt w0 A v g w' := by
  obtain ⟨S, h1, h2, h3⟩ := h
  refine (glen_any W h1).mono ?_
  rintro e w' ⟨he, n, rfl⟩
  exact ⟨he, S, h1.below (below_drewN (Below.refl _ _) n), below_drewN h2 n, h3⟩
theorem gsErr {w0 : World} {A : Nat → Addr} {v : Value} {g : Gr} {W : World} (h : GSt w0 A v g W) :
    Calls Tryd.prog 29 #[v] W fun e w' => e = .returned (errC A g.bad) ∧ W = w' := by
  obtain ⟨S, h1, h2, h3⟩ := h
  exact gerr_any W h1
theorem gsNew {w0 : World} (A : Nat → Addr) {W : World} (hb : Below w0.heap.size w0 W) (n : Int) (hn : in64 n) :
    Calls Tryd.prog 30 #[.int .i64 n] W fun e w' => ∃ v, e = .returned v ∧ GSt w0 A v (newG n) w' := by
  refine (gnew_any A n W hn.1 hn.2).mono ?_
  rintro e w' ⟨⟨v, S, he, hG, hS⟩, hw⟩
  exact ⟨v, he, S, hG, hb.trans (hw.mono hb.size), fun i hi => Nat.le_trans hb.size (hS i hi)⟩

set_option maxRecDepth 8000 in
set_option maxHeartbeats 2000000 in
theorem first8_any (A : Nat → Addr) (w : World) (hs : Sents2 w A) :
    Calls Tryd.prog 37 #[] w fun e w' => e = .returned (.bool true) ∧ Below w.heap.size w w' := by
  have HS := Lib.hid hs
  clear hs
  have e1 : andG (newG 2) 2 4 = (⟨2, [(4, 2)], 0⟩, 6) := rfl
  have e2 : andG ⟨2, [(4, 2)], 0⟩ 4 2 = (⟨2, [(4, 2)], 0⟩, 6) := rfl
  have E1 := Lib.hid e1
  have E2 := Lib.hid e2
  clear e1 e2
  have HN := Lib.hid (gsNew A (Below.refl w.heap.size w) 2 ⟨by decide, by decide⟩)
  go_enter Tryd.func37, Tryd.ntmps37
  go_wp2_with fail
  refine HN.out.mono ?_
  rintro e w1 ⟨v, rfl, hG⟩
  obtain ⟨p, rfl⟩ := hG.ptr
  have H1 := Lib.hid (gsAnd HS.out hG 2 4 ⟨by decide, by decide⟩ ⟨by decide, by decide⟩)
  rw [E1.out] at H1
  clear hG
  go_wp2_with fail
  refine H1.out.mono ?_
  rintro e w2 ⟨rfl, hG⟩
  have H2 := Lib.hid (gsAnd HS.out hG 4 2 ⟨by decide, by decide⟩ ⟨by decide, by decide⟩)
  rw [E2.out] at H2
  clear hG
  go_wp2_with fail
  refine H2.out.mono ?_
  rintro e w3 ⟨rfl, hG⟩
  have H3 := Lib.hid (gsLen hG)
  clear hG
  go_wp2_with fail
  refine H3.out.mono ?_
  rintro e w4 ⟨rfl, hG⟩
  have HB := Lib.hid hG.bel
  have hl : ((⟨2, [(4, 2)], 0⟩ : Gr).len : Int) = 3 := rfl
  rw [hl]
  clear hG hl
  go_wp2_with fail
  go_ret
  exact ⟨rfl, HB.out⟩
end Go.Proofs.YtbighmmjmklioaaDoor
