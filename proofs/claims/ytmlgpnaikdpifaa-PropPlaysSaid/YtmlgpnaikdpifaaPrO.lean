/- Two props of the call's own side by side ('P2'); the clauses told to one ('Told'); skolemlaw15.sorted. No conditions beyond those typed. -/
import Derived.Test.YtmlgpnaikdpifaaPrT
import Derived.Test.YtmlgpnaikdpifaaRefNorm
set_option linter.unusedVariables false
set_option linter.unusedSimpArgs false
namespace Go.Proofs.Ytmlgpnaikdpifaa
open Go.RowKit

def P2 (w0 : World) (T : Nat → Prop) (v x : Value) (p q : Pr) (W : World) : Prop :=
  ∃ S R, PrS W v S p ∧ PrS W x R q ∧ Below w0.heap.size w0 W ∧ (∀ i ∈ S, w0.heap.size ≤ i ∧ ¬ T i) ∧ (∀ i ∈ R, w0.heap.size ≤ i ∧ ¬ T i) ∧ (∀ i ∈ S, i ∉ R) ∧ ∀ i, T i → i < W.heap.size
section
variable {w0 W : World} {T : Nat → Prop} {v x : Value} {p q : Pr}
theorem P2.swap (h : P2 w0 T v x p q W) : P2 w0 T x v q p W := by
  obtain ⟨S, R, h1, h2, h3, h4, h5, h6, h7⟩ := h
  exact ⟨R, S, h2, h1, h3, h5, h4, fun i hi hs => h6 i hs hi, h7⟩
theorem P2.left (h : P2 w0 T v x p q W) : PT w0 T v p W := by
  obtain ⟨S, R, h1, h2, h3, h4, h5, h6, h7⟩ := h
  exact ⟨S, h1, h3, h4, h7⟩
theorem P2.right (h : P2 w0 T v x p q W) : PT w0 T x q W := h.swap.left
theorem P2.bel (h : P2 w0 T v x p q W) : Below w0.heap.size w0 W := h.left.bel
theorem P2.keep {W' : World} (h : P2 w0 T v x p q W) (hb : Below W.heap.size W W') : P2 w0 T v x p q W' := by
  obtain ⟨S, R, h1, h2, h3, h4, h5, h6, h7⟩ := h
  exact ⟨S, R, h1.below hb, h2.below hb, h3.trans (hb.mono h3.size), h4, h5, h6, fun i hi => Nat.lt_of_lt_of_le (h7 i hi) hb.size⟩
theorem P2.more {W' : World} {U : Nat → Prop} (h : P2 w0 T v x p q W) (hb : Below W.heap.size W W') (hU : ∀ i, U i → T i ∨ (W.heap.size ≤ i ∧ i < W'.heap.size)) : P2 w0 U v x p q W' := by
  obtain ⟨S, R, h1, h2, h3, h4, h5, h6, h7⟩ := h
  refine ⟨S, R, h1.below hb, h2.below hb, h3.trans (hb.mono h3.size), fun i hi => ⟨(h4 i hi).1, fun hu => ?_⟩, fun i hi => ⟨(h5 i hi).1, fun hu => ?_⟩, h6, fun i hi => ?_⟩
  · exact (hU i hu).elim (h4 i hi).2 (fun h => absurd (h1.lt i hi) (Nat.not_lt.2 h.1))
  · exact (hU i hu).elim (h5 i hi).2 (fun h => absurd (h2.lt i hi) (Nat.not_lt.2 h.1))
  · exact (hU i hi).elim (fun h => Nat.lt_of_lt_of_le (h7 i h) hb.size) (fun h => h.2)
theorem P2.start {W' : World} {R : List Nat} (h : PSt w0 v p W) (hb : Below W.heap.size W W') (hr : PrS W' x R q) (hR : ∀ i ∈ R, W.heap.size ≤ i) : P2 w0 (fun _ => False) v x p q W' := by
  obtain ⟨S, h1, h2, h3⟩ := h
  exact ⟨S, R, h1.below hb, hr, h2.trans (hb.mono h2.size), fun i hi => ⟨h3 i hi, fun h => h⟩, fun i hi => ⟨Nat.le_trans h2.size (hR i hi), fun h => h⟩, fun i hi hm => by have := h1.lt i hi; have := hR i hm; omega, fun i hi => hi.elim⟩
theorem p2 {R : Value → Pr → Prop} {f : Nat} {args : Array Value} (h : P2 w0 T v x p q W) (hc : ∀ S, PrS W v S p → Calls Try.prog f args W (PPost W v S R)) : Calls Try.prog f args W fun e w' => ∃ r p', R r p' ∧ e = .returned r ∧ P2 w0 T v x p' q w' ∧ Kp T W w' := by
  obtain ⟨S, Q, h1, h2, h3, h4, h5, h6, h7⟩ := h
  refine (hc S h1).mono fun e w' hp => ?_
  obtain ⟨r, p', hR, he, ⟨S', hG, hF⟩, hC⟩ := hp
  refine ⟨r, p', hR, he, ⟨S', Q, hG, h2.keep hC (fun i hi hs => h6 i hs hi), hC.below h3 h3.size (fun i hi => (h4 i hi).1), fun i hi => ?_, h5, fun i hi hm => ?_, fun i hi => Nat.lt_of_lt_of_le (h7 i hi) hC.size⟩, hC.size, fun i hi => hC.block i (h7 i hi) (fun hm => (h4 i hm).2 hi)⟩
  · rcases hF i hi with h | h
    · exact h4 i h
    · exact ⟨Nat.le_trans h3.size h, fun ht => absurd (h7 i ht) (Nat.not_lt.2 h)⟩
  · rcases hF i hi with h | h
    · exact h6 i h hm
    · exact absurd (h2.lt i hm) (Nat.not_lt.2 h)

theorem p2_dec (h : P2 w0 T v x p q W) (l : Int) (h1 : -9223372036854775807 ≤ l) (h2 : l ≤ 9223372036854775807) : Calls Try.prog 18 #[v, .int .i64 l] W fun e w' => e = .returned (.bool (decOk p l)) ∧ P2 w0 T v x (decdP p l) q w' ∧ Kp T W w' :=
  (p2 h fun S hS => pdec_any W hS l h1 h2).mono fun e w' ⟨r, p', ⟨e1, e2⟩, he, hp⟩ => ⟨by rw [he, e1], by rw [← e2]; exact hp⟩

theorem p2_prop (h : P2 w0 T v x p q W) (hc : p.cl.length ≤ 1000) : Calls Try.prog 14 #[v] W fun e w' => ∃ y p', PrpR p y p' ∧ e = .returned (.int .i64 y) ∧ P2 w0 T v x p' q w' ∧ Kp T W w' :=
  (p2 h fun S hS => pprop_any W hS hc).mono fun e w' ⟨r, p', ⟨y, e1, e2⟩, he, hp⟩ => ⟨y, p', e2, by rw [he, e1], hp⟩

theorem p2_add (h : P2 w0 T v x p q W) (u : Value) (xs : List Int) (hu : Row W u xs) (hx : InW xs) (hn : xs.length ≤ 1000) (hc : p.cl.length ≤ 1000) : Calls Try.prog 12 #[v, u] W fun e w' => ∃ (y : Int) (b : Bool) (p' : Pr), AddR p xs b p' ∧ e = .returned (.tuple #[.int .i64 y, .bool b]) ∧ P2 w0 T v x p' q w' ∧ Kp T W w' :=
  (p2 h fun S hS => padd_any W hS u xs hu hx hn hc).mono fun e w' ⟨r, p', hR, he, hp⟩ => by
    rcases hR with ⟨h0, c, h1, h2, h3⟩ | ⟨h0, h1, y, h2⟩
    · exact ⟨_, true, p', .inl ⟨rfl, h0, c, h1, h3⟩, by rw [he, h2], hp⟩
    · exact ⟨y, false, p', .inr ⟨rfl, h0, h1⟩, by rw [he, h2], hp⟩

end

/-! ### The clauses told -/
/-- C: the clauses that are there when these were told to a prop of n variables. -/
def Told (n : Nat) (L C : List (List Int)) : Prop := (∀ c ∈ C, ∃ x ∈ L, addOk n x = true ∧ NrmP x c) ∧ ∀ x ∈ L, addOk n x = true → ∃ c ∈ C, NrmP x c
theorem Told.nil (n : Nat) : Told n [] [] := ⟨by simp, by simp⟩
theorem clsP_add (p : Pr) (c : List Int) : clsP (addP p c) = clsP p ++ [c] := by
  unfold clsP addP
  simp
theorem Told.add {n : Nat} {L : List (List Int)} {p p' : Pr} {xs : List Int} {b : Bool} (h : Told n L (clsP p)) (hn : p.n = n) (ha : AddR p xs b p') : Told n (L ++ [xs]) (clsP p') := by
  rcases ha with ⟨_, h1, c, h2, rfl⟩ | ⟨_, h1, rfl⟩
  · rw [clsP_add]
    refine ⟨fun d hd => ?_, fun x hx hok => ?_⟩
    · rcases List.mem_append.1 hd with hd | hd
      · obtain ⟨x, hx, r⟩ := h.1 d hd
        exact ⟨x, List.mem_append_left _ hx, r⟩
      · simp at hd
        subst hd
        exact ⟨xs, by simp, by rw [← hn]; exact h1, h2⟩
    · rcases List.mem_append.1 hx with hx | hx
      · obtain ⟨d, hd, r⟩ := h.2 x hx hok
        exact ⟨d, List.mem_append_left _ hd, r⟩
      · simp at hx
        subst hx
        exact ⟨c, by simp, h2⟩
  · refine ⟨fun d hd => ?_, fun x hx hok => ?_⟩
    · obtain ⟨x, hx, r⟩ := h.1 d hd
      exact ⟨x, List.mem_append_left _ hx, r⟩
    · rcases List.mem_append.1 hx with hx | hx
      · exact h.2 x hx hok
      · simp at hx
        subst hx
        rw [hn, hok] at h1
        cases h1
theorem Told.same {n : Nat} {L L' C C' : List (List Int)} (h : Told n L C) (h' : Told n L' C') (hL : ∀ x, x ∈ L ↔ x ∈ L') : SameC C C' := by
  refine ⟨fun c hc => ?_, fun c hc => ?_⟩
  · obtain ⟨x, hx, hok, hn⟩ := h.1 c hc
    obtain ⟨d, hd, hn'⟩ := h'.2 x ((hL x).1 hx) hok
    exact ⟨d, hd, fun y => (hn'.2 y).trans (hn.2 y).symm⟩
  · obtain ⟨x, hx, hok, hn⟩ := h'.1 c hc
    obtain ⟨d, hd, hn'⟩ := h.2 x ((hL x).2 hx) hok
    exact ⟨d, hd, fun y => (hn'.2 y).trans (hn.2 y).symm⟩

/-- What Propagate said, as to what follows. -/
structure SaidP (p : Pr) (x : Int) : Prop where
  wf : PrW p
  yes : x < 0 → CldP p
  no : 0 ≤ x → Wrg (clsP p) (decP p)
theorem SaidP.of {p p' : Pr} {x : Int} (h : PrpR p x p') : SaidP p' x := by
  obtain ⟨_, _, _, _, hw, hr⟩ := h
  refine ⟨hw, fun hx => ?_, fun hx => ?_⟩
  · rcases hr with ⟨_, h⟩ | ⟨k, _, e, _⟩
    · exact h
    · omega
  · rcases hr with ⟨e, _⟩ | ⟨k, c, _, hc, hk⟩
    · omega
    · exact hw.wrong hc hk
theorem SaidP.same {p q : Pr} {x y : Int} (h : SaidP p x) (k : SaidP q y) (hC : SameC (clsP p) (clsP q)) (hD : decP p = decP q) : (0 ≤ x ↔ 0 ≤ y) ∧ (x < 0 → ∀ l, l ∈ p.tr ↔ l ∈ q.tr) := by
  have hw := hC.wrg (D := decP p) (D' := decP q) (fun l => by rw [hD])
  have hf := hC.fol (D := decP p) (D' := decP q) (fun l => by rw [hD])
  have h1 : 0 ≤ x → 0 ≤ y := fun hx => by
    rcases (show y < 0 ∨ 0 ≤ y by omega) with hy | hy
    · exact (k.wf.right (k.yes hy) (hw.1 (h.no hx))).elim
    · exact hy
  have h2 : 0 ≤ y → 0 ≤ x := fun hy => by
    rcases (show x < 0 ∨ 0 ≤ x by omega) with hx | hx
    · exact (h.wf.right (h.yes hx) (hw.2 (k.no hy))).elim
    · exact hx
  refine ⟨⟨h1, h2⟩, fun hx l => ?_⟩
  have hy : y < 0 := by
    rcases (show y < 0 ∨ 0 ≤ y by omega) with hy | hy
    · exact hy
    · have := h2 hy; omega
  rw [← h.wf.iff (h.yes hx), ← k.wf.iff (k.yes hy), hf]
theorem decOk_same {p q : Pr} (hn : p.n = q.n) (hm : ∀ l, l ∈ p.tr ↔ l ∈ q.tr) (l : Int) : decOk p l = decOk q l := by
  have : valP p l = valP q l := by unfold valP; simp only [hm]
  unfold decOk
  rw [hn, this]

set_option maxHeartbeats 1000000 in
theorem sorted_any (v : Value) (xs : List Int) (w : World) (hv : Row w v xs) (hxs : InW xs) (hn : xs.length < 1000000000) :
    Calls Try.prog 50 #[v] w fun e w' => ∃ u l, e = .returned u ∧ Nsd xs l ∧ Row w' u l ∧ Below w.heap.size w w' := by
  have H1 := Lib.hid (refNorm_any v xs w hv hxs hn)
  obtain ⟨a, c, rfl, _⟩ := hv
  go_enter Try.func50, Try.ntmps50
  go_wp2_with fail
  refine H1.out.mono ?_
  rintro e w1 ⟨u, l, rfl, hN, hb, hown⟩
  have HR := Lib.hid (own_row hown)
  have HB := Lib.hid hb
  have HN := Lib.hid hN
  obtain ⟨a', c', rfl, _⟩ := own_row hown
  clear hown hb hN
  go_wp2_with fail
  go_ret
  exact ⟨_, l, rfl, HN.out, HR.out, HB.out⟩

end Go.Proofs.Ytmlgpnaikdpifaa
