/- A prop of the call's own in memory ('PSt'), and what each call leaves of it; the contract of skolemlaw15.first. Conditions: the numbers are 64-bit ints; the prop lies in memory as 'PrS' says. -/
import Derived.Test.YtmlgpnaikdpifaaPrI
import Derived.Test.YtmlgpnaikdpifaaIntsR
import Derived.Deep.Light
set_option linter.unusedVariables false
set_option linter.unusedSimpArgs false
namespace Go.Proofs.Ytmlgpnaikdpifaa
open Go.RowKit

theorem PrS.below {w w' : World} {v : Value} {S : List Nat} {p : Pr} (h : PrS w v S p) (hb : Below w.heap.size w w') : PrS w' v S p := h.keep (Chg.of_below (S := []) hb) (by simp)
/-- A prop behind v, in memory that is new since w0. -/
def PSt (w0 : World) (v : Value) (p : Pr) (W : World) : Prop := ∃ S, PrS W v S p ∧ Below w0.heap.size w0 W ∧ ∀ i ∈ S, w0.heap.size ≤ i
section
variable {w0 W : World} {v : Value} {p : Pr}
theorem PSt.bel (h : PSt w0 v p W) : Below w0.heap.size w0 W := by obtain ⟨S, _, h, _⟩ := h; exact h
theorem PSt.wf (h : PSt w0 v p W) : PrW p := by obtain ⟨S, h, _⟩ := h; exact h.wf
theorem PSt.ptr (h : PSt w0 v p W) : ∃ q, v = .pointer (some ⟨q, 0, none⟩) := by obtain ⟨S, h, _⟩ := h; exact h.ptr
theorem PSt.keep {W' : World} (h : PSt w0 v p W) (hb : Below W.heap.size W W') : PSt w0 v p W' := by
  obtain ⟨S, h1, h2, h3⟩ := h
  exact ⟨S, h1.below hb, h2.trans (hb.mono h2.size), h3⟩
theorem PSt.drew (h : PSt w0 v p W) : PSt w0 v p W.drew := h.keep (Below.refl _ _).drew
/-- What a call on it leaves. -/
theorem ps {R : Value → Pr → Prop} {f : Nat} {args : Array Value} (h : PSt w0 v p W) (hc : ∀ S, PrS W v S p → Calls Try.prog f args W (PPost W v S R)) : Calls Try.prog f args W fun e w' => ∃ r p', R r p' ∧ e = .returned r ∧ PSt w0 v p' w' := by
  obtain ⟨S, h1, h2, h3⟩ := h
  refine (hc S h1).mono fun e w' hp => ?_
  obtain ⟨r, p', hR, he, ⟨S', hG, hF⟩, hC⟩ := hp
  exact ⟨r, p', hR, he, S', hG, hC.below h2 h2.size h3, fun i hi => (hF i hi).elim (h3 i) (fun h' => Nat.le_trans h2.size h')⟩
theorem PSt.use {P : Prop} (h : PSt w0 v p W) (hc : ∀ S, PrS W v S p → P) : P := by
  obtain ⟨S, h1, _⟩ := h
  exact hc S h1

theorem ps_new (hb : Below w0.heap.size w0 W) (n : Int) (h1 : -9223372036854775808 ≤ n) (h2 : n ≤ 9223372036854775807) : Calls Try.prog 10 #[.int .i64 n] W fun e w' => ∃ v, e = .returned v ∧ PSt w0 v (newP n) w' :=
  (pnew_any W n h1 h2).mono fun e w' ⟨v, S, he, hS, hn, hb'⟩ => ⟨v, he, S, hS, hb.trans (hb'.mono hb.size), fun i hi => Nat.le_trans hb.size (hn i hi)⟩

theorem ps_grow (h : PSt w0 v p W) (n : Int) (h1 : -9223372036854775808 ≤ n) (h2 : n ≤ 9223372036854775807) : Calls Try.prog 41 #[v, .int .i64 n] W fun e w' => e = .returned (.tuple #[]) ∧ PSt w0 v (growP p n) w' :=
  (ps h fun S hS => pgrow_any W hS n h1 h2).mono fun e w' ⟨r, p', ⟨e1, e2⟩, he, hp⟩ => ⟨by rw [he, e1], by rw [← e2]; exact hp⟩

theorem ps_drop (h : PSt w0 v p W) (i : Int) (h1 : -9223372036854775808 ≤ i) (h2 : i ≤ 9223372036854775807) : Calls Try.prog 23 #[v, .int .i64 i] W fun e w' => e = .returned (.bool (dropOk p i)) ∧ PSt w0 v (dropP p i) w' :=
  (ps h fun S hS => pdrop_any W hS i h1 h2).mono fun e w' ⟨r, p', ⟨e1, e2⟩, he, hp⟩ => ⟨by rw [he, e1], by rw [← e2]; exact hp⟩

theorem ps_dec (h : PSt w0 v p W) (l : Int) (h1 : -9223372036854775807 ≤ l) (h2 : l ≤ 9223372036854775807) : Calls Try.prog 18 #[v, .int .i64 l] W fun e w' => e = .returned (.bool (decOk p l)) ∧ PSt w0 v (decdP p l) w' :=
  (ps h fun S hS => pdec_any W hS l h1 h2).mono fun e w' ⟨r, p', ⟨e1, e2⟩, he, hp⟩ => ⟨by rw [he, e1], by rw [← e2]; exact hp⟩

theorem ps_back (h : PSt w0 v p W) (k : Int) (h1 : -9223372036854775808 ≤ k) (h2 : k ≤ 9223372036854775807) : Calls Try.prog 20 #[v, .int .i64 k] W fun e w' => e = .returned (.tuple #[]) ∧ PSt w0 v (backP p k) w' :=
  (ps h fun S hS => pback_any W hS k h1 h2).mono fun e w' ⟨r, p', ⟨e1, e2⟩, he, hp⟩ => ⟨by rw [he, e1], by rw [← e2]; exact hp⟩

theorem ps_prop (h : PSt w0 v p W) (hc : p.cl.length ≤ 1000) : Calls Try.prog 14 #[v] W fun e w' => ∃ x p', PrpR p x p' ∧ e = .returned (.int .i64 x) ∧ PSt w0 v p' w' :=
  (ps h fun S hS => pprop_any W hS hc).mono fun e w' ⟨r, p', ⟨x, e1, e2⟩, he, hp⟩ => ⟨x, p', e2, by rw [he, e1], hp⟩

/-- A right clause that says something. -/
theorem ps_add (h : PSt w0 v p W) (u : Value) (xs : List Int) (hu : Row W u xs) (hx : InW xs) (hn : xs.length ≤ 1000) (hc : p.cl.length ≤ 1000) (hok : addOk p.n xs = true) : Calls Try.prog 12 #[v, u] W fun e w' => ∃ c, NrmP xs c ∧ e = .returned (.tuple #[.int .i64 (p.cl.length : Int), .bool true]) ∧ PSt w0 v (addP p c) w' :=
  (ps h fun S hS => padd_any W hS u xs hu hx hn hc).mono fun e w' ⟨r, p', hR, he, hp⟩ => by
    rcases hR with ⟨_, c, h1, h2, h3⟩ | ⟨h0, _⟩
    · exact ⟨c, h1, by rw [he, h2], by rw [← h3]; exact hp⟩
    · rw [hok] at h0; cases h0

theorem ps_addN (h : PSt w0 v p W) (u : Value) (xs : List Int) (hu : Row W u xs) (hx : InW xs) (hn : xs.length ≤ 1000) (hc : p.cl.length ≤ 1000) (hok : addOk p.n xs = false) : Calls Try.prog 12 #[v, u] W fun e w' => ∃ x : Int, e = .returned (.tuple #[.int .i64 x, .bool false]) ∧ PSt w0 v p w' :=
  (ps h fun S hS => padd_any W hS u xs hu hx hn hc).mono fun e w' ⟨r, p', hR, he, hp⟩ => by
    rcases hR with ⟨h0, _⟩ | ⟨_, h1, x, h2⟩
    · rw [hok] at h0; cases h0
    · exact ⟨x, by rw [he, h2], by rw [← h1]; exact hp⟩

end
/-! ### What is told in a call -/
theorem row_cells (W : World) (xs : List Int) (hn : 0 < xs.length) (hm : xs.length ≤ 1000) : Row (W.alloc (.cells (xs.map (Value.int .i64)).toArray 3)) (.slice (some ⟨W.heap.size, 0, none⟩) xs.length xs.length) xs := by
  refine ⟨_, _, rfl, Nat.le_refl _, by unfold maxLen; omega, .inr ⟨_, _, rfl, by simp, fun j hj => ?_⟩⟩
  rw [World.cell?_alloc_at _ _ _ _ rfl]
  simp [List.getD, hj]
theorem row1 (W : World) (x : Int) : Row (W.alloc (.cells #[.int .i64 x] 3)) (.slice (some ⟨W.heap.size, 0, none⟩) 1 1) [x] := row_cells W [x] (by simp) (by simp)
theorem row2 (W : World) (x y : Int) : Row (W.alloc (.cells #[.int .i64 x, .int .i64 y] 3)) (.slice (some ⟨W.heap.size, 0, none⟩) 2 2) [x, y] := row_cells W [x, y] (by simp) (by simp)
theorem row3 (W : World) (x y z : Int) : Row (W.alloc (.cells #[.int .i64 x, .int .i64 y, .int .i64 z] 3)) (.slice (some ⟨W.heap.size, 0, none⟩) 3 3) [x, y, z] := row_cells W [x, y, z] (by simp) (by simp)
theorem PSt.alloc {w0 W : World} {v : Value} {p : Pr} (h : PSt w0 v p W) (o : Obj) : PSt w0 v p (W.alloc o) := h.keep ((Below.refl _ _).alloc (Nat.le_refl _) _)

/-- A unit clause is all there is: then it is true. -/
theorem unit_prop {p p' : Pr} {x l : Int} (h : PrpR p x p') (hc : p.cl = [some [l]]) (ht : p.tr = []) (hs : p.st = []) : x = -1 ∧ p'.tr = [l] ∧ p'.st = [] ∧ p'.n = p.n := by
  obtain ⟨h1, h2, h3, _, hw, hr⟩ := h
  have hD : decP p' = [] := by unfold decP; rw [h3, hs]; rfl
  have hC : clsP p' = [[l]] := by unfold clsP; rw [h2, hc]; rfl
  have hz := plc_zero' ((hw.cls [l] (by rw [hC]; simp)).2 l (by simp)).1.1
  have hst : p'.st = [] := by rw [h3, hs]
  have hall : ∀ k ∈ p'.tr, k = l := by
    have : ∀ k, Fol [[l]] [] k → k = l := fun k hf => by
      cases hf with
      | dec h => simp at h
      | unit h1 h2 _ => simp at h1; subst h1; simpa using h2
    intro k hk
    have := this k (by rw [← hC, ← hD]; exact hw.fol hk)
    exact this
  have hx : x = -1 := by
    rcases hr with ⟨h, _⟩ | ⟨k, c, _, hk, hf⟩
    · exact h
    · exfalso
      rw [h2, hc] at hk
      have e : c = [l] := by
        cases k with
        | zero => simpa using hk.symm
        | succ k => simp at hk
      subst e
      have := hall _ (hf l (by simp))
      omega
  refine ⟨hx, ?_, hst, h1⟩
  have hl : l ∈ p'.tr := by
    rcases hr with ⟨_, hcl⟩ | ⟨k, c, e, _⟩
    · rcases hcl [l] (by rw [hC]; simp) with ⟨a, ha, hat⟩ | ⟨a, ha, b, hb, hne, _⟩
      · simp at ha; subst ha; exact hat
      · simp at ha hb; subst ha; subst hb; exact absurd rfl hne
    · rw [hx] at e; omega
  have hlen : p'.tr.length ≤ 1 := by
    rcases Nat.lt_or_ge 1 p'.tr.length with h | h
    · exfalso
      have := List.pairwise_iff_getElem.1 hw.one 0 1 (by omega) h (by omega)
      exact this (by rw [hall _ (List.getElem_mem _), hall _ (List.getElem_mem _)])
    · exact h
  match htr : p'.tr, hl, hlen, hall with
  | [], hl, _, _ => simp at hl
  | [a], _, _, ha => rw [ha a (by simp)]
  | a :: b :: r, _, hlen, _ => simp at hlen
theorem nrm_one {l : Int} {c : List Int} (h : NrmP [l] c) : c = [l] := by
  obtain ⟨h1, h2⟩ := h
  match c, h1, h2 with
  | [], _, h2 => exact absurd ((h2 l).2 (by simp)) (by simp)
  | [a], _, h2 => have := (h2 a).1 (by simp); simp at this; rw [this]
  | a :: b :: r, h1, h2 =>
    have e1 := (h2 a).1 (by simp)
    have e2 := (h2 b).1 (by simp)
    simp at e1 e2
    subst e1; subst e2
    simp at h1

set_option maxRecDepth 4000 in
set_option maxHeartbeats 1000000 in
theorem first15_any (w : World) :
    Calls Try.prog 9 #[] w fun e w' => e = .returned (.bool true) ∧ Below w.heap.size w w' := by
  have HN := Lib.hid (ps_new (Below.refl w.heap.size w) 1 (by decide) (by decide))
  have HOK : Hid (addOk (newP 1).n [1] = true) := by unfold Hid; decide
  go_enter Try.func9, Try.ntmps9
  go_wp2_with fail
  refine HN.out.mono ?_
  rintro e w1 ⟨v, rfl, hG⟩
  obtain ⟨q, rfl⟩ := hG.ptr
  have H1 := Lib.hid (ps_add (hG.alloc _) _ [1] (row1 w1 1) (by intro x hx; simp at hx; omega) (by simp) (by simp [newP]) HOK.out)
  clear hG
  go_wp2_with fail
  refine H1.out.mono ?_
  rintro e w2 ⟨c, hc, rfl, hG⟩
  rw [nrm_one hc] at hG
  clear hc
  have H2 := Lib.hid (ps_prop hG (by simp [addP, newP]))
  clear hG
  go_wp2_with fail
  refine H2.out.mono ?_
  rintro e w3 ⟨x, p', hR, rfl, hG⟩
  obtain ⟨rfl, ht, _, _⟩ := unit_prop hR rfl rfl rfl
  have hv : valP p' 1 = 1 := by unfold valP; rw [ht]; simp
  have H3 := Lib.hid (hG.use fun S hS => pval_any w3 hS 1 (by decide) (by decide))
  rw [hv] at H3
  have HB := Lib.hid hG.bel
  clear hG hR ht hv
  go_wp2_with fail
  refine H3.out.mono ?_
  rintro e w4 ⟨rfl, rfl⟩
  go_wp2_with fail
  go_ret
  exact ⟨rfl, HB.out⟩

end Go.Proofs.Ytmlgpnaikdpifaa
