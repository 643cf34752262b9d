/- A new graph where a law stands; two graphs side by side ('PIn'). Conditions: those typed. -/
import Derived.Test.YtbighmmjmklioaaDoorGwN
import Derived.Test.YtbighmmjmklioaaDoorGwO
import Derived.Test.YtbighmmjmklioaaDoorGst
import Derived.Test.YtbighmmjmklioaaDoorCir
import Derived.Test.YtbighmmjmklioaaDoorRgCir
namespace Go.Proofs.YtbighmmjmklioaaDoor
open Go.RowKit

abbrev GP (A : Nat → Addr) (p : Nat) : World → List Nat → Gr → Prop := fun W S g => GrM W A (.pointer (some ⟨p, 0, none⟩)) S g
abbrev GR (q : Nat) : World → List Nat → Gr → Prop := fun W S g => RgM W (.pointer (some ⟨q, 0, none⟩)) S g
theorem GIn.below {G : World → List Nat → Gr → Prop} {w W : World} {g : Gr} (h : GIn G w [] g W) : Below w.heap.size w W := by
  obtain ⟨_, hC⟩ := h
  exact ⟨hC.os, hC.tape, hC.output, hC.size, fun i hi => hC.block i hi (by simp)⟩
theorem goNew {w W : World} (A : Nat → Addr) (hb : Below w.heap.size w W) (n : Int) (hn : in64 n) :
    Calls Tryd.prog 30 #[.int .i64 n] W fun e w' => ∃ p, e = .returned (.pointer (some ⟨p, 0, none⟩)) ∧ GIn (GP A p) w [] (newG n) w' := by
  refine (gnew_any A n W hn.1 hn.2).mono ?_
  rintro e w' ⟨⟨v, S, he, hG, hS⟩, hw⟩
  obtain ⟨p, rfl⟩ : ∃ p, v = .pointer (some ⟨p, 0, none⟩) := by obtain ⟨p, m, u, N, D, h⟩ := hG; exact ⟨p, h.val⟩
  exact ⟨p, he, ⟨S, hG, fun i hi => .inr (Nat.le_trans hb.size (hS i hi))⟩, Chg.of_below (hb.trans (hw.mono hb.size))⟩

/-- Two graphs side by side. -/
def PIn (G1 G2 : World → List Nat → Gr → Prop) (w : World) (S T : List Nat) (g r : Gr) (W : World) : Prop := ∃ S' T', G1 W S' g ∧ G2 W T' r ∧ Fresh w S S' ∧ Fresh w T T' ∧ (∀ i ∈ S', i ∉ T') ∧ Chg (S ++ T) w W
theorem Fresh.left {w : World} {S T U : List Nat} (h : Fresh w S U) : Fresh w (S ++ T) U := fun i hi => (h i hi).imp (fun h => List.mem_append_left _ h) id
theorem Fresh.right {w : World} {S T U : List Nat} (h : Fresh w T U) : Fresh w (S ++ T) U := fun i hi => (h i hi).imp (fun h => List.mem_append_right _ h) id
section
variable {G1 G2 : World → List Nat → Gr → Prop} {E1 E2 : World → List Nat → Prop} {v1 v2 : Value} {f1 f2 f3 f4 : Nat} {w W : World} {S T : List Nat} {g r : Gr}
theorem PIn.chg (h : PIn G1 G2 w S T g r W) : Chg (S ++ T) w W := by obtain ⟨S', T', _, _, _, _, _, h⟩ := h; exact h
theorem PIn.below (h : PIn G1 G2 w [] [] g r W) : Below w.heap.size w W := by
  have hC := h.chg
  exact ⟨hC.os, hC.tape, hC.output, hC.size, fun i hi => hC.block i hi (by simp)⟩
theorem PIn.one (h : PIn G1 G2 w [] [] g r W) : GIn G1 w [] g W := by
  obtain ⟨S', T', h1, h2, h3, h4, h5, h6⟩ := h
  exact ⟨⟨S', h1, h3⟩, h6⟩
theorem PIn.keep (k1 : GKind G1) (k2 : GKind G2) (h : PIn G1 G2 w S T g r W) {W' : World} (hb : Below W.heap.size W W') : PIn G1 G2 w S T g r W' := by
  obtain ⟨S', T', h1, h2, h3, h4, h5, h6⟩ := h
  exact ⟨S', T', k1.keep h1 (Chg.of_below (S := []) hb) (by simp), k2.keep h2 (Chg.of_below (S := []) hb) (by simp), h3, h4, h5, h6.trans (Chg.of_below (S := []) hb) (fun i hi => by cases hi)⟩
theorem PIn.call1 (H : GOp G1 E1 v1 f1 f2) (k2 : GKind G2) (hE : E1 w (S ++ T)) (h : PIn G1 G2 w S T g r W) {P : Program} {f : Nat} {args : Array Value} {o : Gr × Int} (hc : ∀ S', E1 W S' → G1 W S' g → Fresh w (S ++ T) S' → Chg (S ++ T) w W → Calls P f args W fun e w' => e = .returned (.int .i64 o.2) ∧ GIn G1 W S' o.1 w') :
    Calls P f args W fun e w' => e = .returned (.int .i64 o.2) ∧ PIn G1 G2 w S T o.1 r w' := by
  obtain ⟨S', T', h1, h2, h3, h4, h5, h6⟩ := h
  refine (hc S' (H.env hE h6 h3.left) h1 h3.left h6).mono ?_
  rintro e w' ⟨he, ⟨S'', hG, hF⟩, hC⟩
  exact ⟨he, S'', T', hG, k2.keep h2 hC (fun i hi hm => h5 i hm hi), h3.trans hF h6.size, h4, fun i hi => (hF i hi).elim (h5 i) (fun h' hm => absurd (k2.lt h2 i hm) (Nat.not_lt.2 h')), h6.trans hC h3.left⟩
theorem PIn.call2 (H : GOp G2 E2 v2 f3 f4) (k1 : GKind G1) (hE : E2 w (S ++ T)) (h : PIn G1 G2 w S T g r W) {P : Program} {f : Nat} {args : Array Value} {o : Gr × Int} (hc : ∀ T', E2 W T' → G2 W T' r → Fresh w (S ++ T) T' → Chg (S ++ T) w W → Calls P f args W fun e w' => e = .returned (.int .i64 o.2) ∧ GIn G2 W T' o.1 w') :
    Calls P f args W fun e w' => e = .returned (.int .i64 o.2) ∧ PIn G1 G2 w S T g o.1 w' := by
  obtain ⟨S', T', h1, h2, h3, h4, h5, h6⟩ := h
  refine (hc T' (H.env hE h6 h4.right) h2 h4.right h6).mono ?_
  rintro e w' ⟨he, ⟨T'', hG, hF⟩, hC⟩
  exact ⟨he, S', T'', k1.keep h1 hC h5, hG, h3, h4.trans hF h6.size, fun i hi hm => (hF i hm).elim (h5 i hi) (fun h' => absurd (k1.lt h1 i hi) (Nat.not_lt.2 h')), h6.trans hC h4.right⟩
theorem PIn.rebase (H1 : GOp G1 E1 v1 f1 f2) (k2 : GKind G2) (hE : E1 w (S ++ T)) (h : PIn G1 G2 w S T g r W) {W' : World} (hb : Below W.heap.size W W') : ∃ S' T', E1 W' (S' ++ T') ∧ PIn G1 G2 W' S' T' g r W' ∧ (∀ i ∈ S' ++ T', i < W.heap.size) ∧ ∀ g' r' W'', PIn G1 G2 W' S' T' g' r' W'' → PIn G1 G2 w S T g' r' W'' := by
  have hC' := (h.keep H1.kind k2 hb).chg
  obtain ⟨S', T', h1, h2, h3, h4, h5, h6⟩ := h
  refine ⟨S', T', H1.env hE hC' fun i hi => ?_, ⟨S', T', H1.kind.keep h1 (Chg.of_below (S := []) hb) (by simp), k2.keep h2 (Chg.of_below (S := []) hb) (by simp), Fresh.refl _ _, Fresh.refl _ _, h5, Chg.refl _ _⟩, fun i hi => ?_, fun g' r' W'' h' => ?_⟩
  · rcases List.mem_append.1 hi with hi | hi
    · exact h3.left i hi
    · exact h4.right i hi
  · rcases List.mem_append.1 hi with hi | hi
    · exact H1.kind.lt h1 i hi
    · exact k2.lt h2 i hi
  · obtain ⟨S2, T2, k1', k2', k3, k4, k5, k6⟩ := h'
    refine ⟨S2, T2, k1', k2', h3.trans k3 hC'.size, h4.trans k4 hC'.size, k5, hC'.trans k6 fun i hi => ?_⟩
    rcases List.mem_append.1 hi with hi | hi
    · exact h3.left i hi
    · exact h4.right i hi
end
theorem PIn.start {w W : World} {A : Nat → Addr} {p : Nat} {g : Gr} (h : GIn (GP A p) w [] g W) (n : Int) (hn : in64 n) :
    Calls Tryd.prog 47 #[.int .i64 n] W fun e w' => ∃ q, e = .returned (.pointer (some ⟨q, 0, none⟩)) ∧ PIn (GP A p) (GR q) w [] [] g (newG n) w' := by
  refine (rnew_any n W hn.1 hn.2).mono ?_
  rintro e w' ⟨⟨v, T, he, hR, hT⟩, hw⟩
  obtain ⟨q, rfl⟩ : ∃ q, v = .pointer (some ⟨q, 0, none⟩) := by obtain ⟨q, u, h⟩ := hR; exact ⟨q, h.val⟩
  have hC := h.2
  obtain ⟨⟨S, h1, h3⟩, h6⟩ := h
  exact ⟨q, he, S, T, (grKind A (.pointer (some ⟨p, 0, none⟩))).keep h1 (Chg.of_below (S := []) hw) (by simp), hR, h3, fun i hi => .inr (Nat.le_trans hC.size (hT i hi)), fun i hi hm => absurd ((grKind A (.pointer (some ⟨p, 0, none⟩))).lt h1 i hi) (Nat.not_lt.2 (hT i hm)), h6.trans (Chg.of_below (S := []) hw) (fun i hi => by cases hi)⟩
end Go.Proofs.YtbighmmjmklioaaDoor
