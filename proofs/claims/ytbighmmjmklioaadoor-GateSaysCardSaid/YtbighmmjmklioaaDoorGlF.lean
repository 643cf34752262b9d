/- What the laws on gates begin with: skolemlaw9.first answers true, skolemlaw9.pair makes two graphs alike; calls on these. Conditions: the two errors lie as 'Sents2' says; the slice reads as 64-bit ints. -/
import Derived.Test.YtbighmmjmklioaaDoorGlN
import Derived.Test.YtbighmmjmklioaaDoorGsV
import Derived.Test.YtbighmmjmklioaaDoorLawFold
namespace Go.Proofs.YtbighmmjmklioaaDoor
open Go.RowKit

theorem own_lits (w : World) (B : Nat) (xs : List Int) (hB : B ≤ w.heap.size) (hl : xs.length ≤ 1000) : (w.alloc (.cells (xs.map (Value.int .i64)).toArray 3)).ownsRow B 3 1 (.slice (some ⟨w.heap.size, 0, none⟩) xs.length xs.length) xs.length (xs.map (Value.int .i64)) :=
  ⟨by simp, .inr ⟨w.heap.size, xs.length, _, rfl, hB, heap_alloc_new w _, Nat.le_refl _, by unfold maxLen; omega, by simp, by rw [Nat.mul_one]; simp [List.take_of_length_le]⟩⟩
theorem mod_pos9 (x n : Int) (h : 0 < n) : 0 ≤ x % n ∧ x % n < n := ⟨Int.emod_nonneg _ (by omega), Int.emod_lt_of_pos _ h⟩
theorem newG_fine (n : Int) : (newG n).Fine := ⟨fun _ hk => absurd hk (Nat.not_lt_zero _), rfl⟩
theorem fine_right {g : Gr} (h : g.Fine) (os : List Int) (ho : ∀ o ∈ os, g.isB o = true) (hl : g.len ≤ 8000) : checkC (g.n : Int) g.ands os = 0 := by
  unfold checkC
  have hl' : g.n + g.ands.length ≤ 8000 := hl
  rw [if_neg (by omega), if_pos]
  unfold rightC
  rw [Bool.and_eq_true]
  refine ⟨(okA_iff _ _).2 fun k hk => h.1 k hk, ?_⟩
  rw [List.all_eq_true]
  intro o hm
  have := (isB_iff _ _).1 (ho o hm)
  rw [okO_iff]
  exact this
section
variable {w W : World} {A : Nat → Addr} {p : Nat} {g : Gr}
theorem env0 (hS : Sents2 w A) : EnvP A w [] := ⟨hS, Sep.nil⟩
theorem env00 (hS : Sents2 w A) : EnvP A w ([] ++ []) := ⟨hS, Sep.nil⟩
theorem giLen (h : GIn (GP A p) w [] g W) :
    Calls Tryd.prog 34 #[.pointer (some ⟨p, 0, none⟩)] W fun e w' => e = .returned (.int .i64 (g.len : Int)) ∧ GIn (GP A p) w [] g w' := by
  have hk := fun n => h.keep (grKind A (.pointer (some ⟨p, 0, none⟩))) (below_drewN (Below.refl W.heap.size W) n)
  obtain ⟨⟨S, h1, h2⟩, h3⟩ := h
  refine (glen_any W h1).mono ?_
  rintro e w' ⟨he, n, rfl⟩
  exact ⟨he, hk n⟩
theorem giErr (h : GIn (GP A p) w [] g W) :
    Calls Tryd.prog 29 #[.pointer (some ⟨p, 0, none⟩)] W fun e w' => e = .returned (errC A g.bad) ∧ W = w' := by
  obtain ⟨⟨S, h1, h2⟩, h3⟩ := h
  exact gerr_any W h1
theorem giCirc (h : GIn (GP A p) w [] g W) (o : Value) (os : List Int) (ho : Row W o os) (hn : os.length ≤ 1000000) :
    Calls Tryd.prog 27 #[.pointer (some ⟨p, 0, none⟩), o] W (CirPost W (g.n : Int) g.ands os) := by
  obtain ⟨⟨S, h1, h2⟩, h3⟩ := h
  exact gcirc_any W h1 o os ho hn
end

set_option maxRecDepth 8000 in
set_option maxHeartbeats 2000000 in
theorem first9_any (A : Nat → Addr) (w : World) (hS : Sents2 w A) :
    Calls Tryd.prog 9 #[] w fun e w' => e = .returned (.bool true) ∧ Below w.heap.size w w' := by
  have HE := Lib.hid (env0 hS)
  clear hS
  have HN := Lib.hid (goNew (w := w) A (Below.refl w.heap.size w) 1 ⟨by decide, by decide⟩)
  have E1 : Hid (anyG (newG 1) [] = (newG 1, 0)) := rfl
  have E2 : Hid (allG (newG 1) [] = (newG 1, 1)) := rfl
  have E3 : Hid (anyG (newG 1) [2] = (newG 1, 2)) := rfl
  have HOF : Hid (OffI w [] (.slice none 0 0) []) := ⟨none, 0, rfl, by simp, by unfold maxLen; omega, .inl rfl⟩
  go_enter Tryd.func9, Tryd.ntmps9
  go_wp2_with fail
  refine HN.out.mono ?_
  rintro e w1 ⟨p, rfl, hG⟩
  have H1 := Lib.hid (gany_any (gopP A _) HE.out hG (.slice none 0 0) [] HOF.out (fun l hl => (by cases hl)) (by simp))
  rw [E1.out] at H1
  clear hG
  go_wp2_with fail
  refine H1.out.mono ?_
  rintro e w2 ⟨rfl, hG⟩
  have H2 := Lib.hid (gall_any (gopP A _) HE.out hG (.slice none 0 0) [] HOF.out (fun l hl => (by cases hl)))
  rw [E2.out] at H2
  clear hG
  go_wp2_with fail
  refine H2.out.mono ?_
  rintro e w3 ⟨rfl, hG⟩
  have H3 : Hid (Calls Tryd.prog 21 #[.pointer (some ⟨p, 0, none⟩), .slice (some ⟨w3.heap.size, 0, none⟩) 1 1] (w3.alloc (.cells #[.int .i64 2] 3)) fun e w' => e = .returned (.int .i64 2) ∧ GIn (GP A p) w [] (newG 1) w') := by
    obtain ⟨S', hE', hG', hlt, hback⟩ := hG.rebase (gopP A _) HE.out (show Below w3.heap.size w3 (w3.alloc (.cells #[.int .i64 2] 3)) from (Below.refl _ _).alloc (Nat.le_refl _) _)
    have := gany_any (gopP A _) hE' hG' (.slice (some ⟨w3.heap.size, 0, none⟩) 1 1) [2] (OffI.of_own (own_lit1 w3 w3.heap.size 2 (Nat.le_refl _)) hlt) (fun l hl => by simp at hl; subst hl; omega) (by simp)
    rw [E3.out] at this
    exact this.mono fun e w' ⟨he, h⟩ => ⟨he, hback _ _ h⟩
  clear hG
  go_wp2_with fail
  refine H3.out.mono ?_
  rintro e w4 ⟨rfl, hG⟩
  have HB := Lib.hid hG.below
  clear hG
  go_wp2_with fail
  go_ret
  exact ⟨rfl, HB.out⟩

section
variable {w W : World} {A : Nat → Addr} {p q : Nat} {S T : List Nat} {g r : Gr}
theorem piAnd (hE : EnvP A w (S ++ T)) (h : PIn (GP A p) (GR q) w S T g r W) (a b : Int) (ha : in64 a) (hb : in64 b) :
    Calls Tryd.prog 35 #[.pointer (some ⟨p, 0, none⟩), .int .i64 a, .int .i64 b] W fun e w' => e = .returned (.int .i64 (andG g a b).2) ∧ PIn (GP A p) (GR q) w S T (andG g a b).1 r w' :=
  h.call1 (gopP A _) (rgKind _) hE fun _ hE' hG _ _ => (gopP A _).gand hE' (GIn.refl hG) a b ha hb
theorem piRAnd (h : PIn (GP A p) (GR q) w S T g r W) (a b : Int) (ha : in64 a) (hb : in64 b) :
    Calls Tryd.prog 48 #[.pointer (some ⟨q, 0, none⟩), .int .i64 a, .int .i64 b] W fun e w' => e = .returned (.int .i64 (andG r a b).2) ∧ PIn (GP A p) (GR q) w S T g (andG r a b).1 w' :=
  h.call2 (gopR _) (grKind A _) trivial fun _ hE' hG _ _ => (gopR _).gand hE' (GIn.refl hG) a b ha hb
theorem piRLen (h : PIn (GP A p) (GR q) w S T g r W) :
    Calls Tryd.prog 11 #[.pointer (some ⟨q, 0, none⟩)] W fun e w' => e = .returned (.int .i64 (r.len : Int)) ∧ PIn (GP A p) (GR q) w S T g r w' := by
  have hk := fun n => h.keep (grKind A (.pointer (some ⟨p, 0, none⟩))) (rgKind (.pointer (some ⟨q, 0, none⟩))) (below_drewN (Below.refl W.heap.size W) n)
  obtain ⟨S', T', h1, h2, _⟩ := h
  refine (rlen_any W h2).mono ?_
  rintro e w' ⟨he, n, rfl⟩
  exact ⟨he, hk n⟩
theorem piRCirc (h : PIn (GP A p) (GR q) w S T g r W) (o : Value) (os : List Int) (ho : Row W o os) (hn : os.length ≤ 1000000) :
    Calls Tryd.prog 28 #[.pointer (some ⟨q, 0, none⟩), o] W (CirPost W (r.n : Int) r.ands os) := by
  obtain ⟨S', T', h1, h2, _⟩ := h
  exact rcirc_any W h2 o os ho hn
theorem piCirc (h : PIn (GP A p) (GR q) w S T g r W) (o : Value) (os : List Int) (ho : Row W o os) (hn : os.length ≤ 1000000) :
    Calls Tryd.prog 27 #[.pointer (some ⟨p, 0, none⟩), o] W (CirPost W (g.n : Int) g.ands os) := by
  obtain ⟨S', T', h1, h2, _⟩ := h
  exact gcirc_any W h1 o os ho hn
theorem Row.nil9 (W : World) : Row W (.slice none 0 0) [] := ⟨none, 0, rfl, by simp, by unfold maxLen; omega, .inl rfl⟩
end

set_option maxRecDepth 8000 in
set_option maxHeartbeats 4000000 in
theorem pair9_any (A : Nat → Addr) (N : Nat) (hN : N ≤ 20) (a : Option Addr) (c : Nat) (ls : List Int) (w W : World) (hS : Sents2 w A) (hB : Below w.heap.size w W) (hv : RowAt w a c ls) (hls : ∀ y ∈ ls, -9223372036854775808 ≤ y ∧ y ≤ 9223372036854775807) (hnl : ls.length ≤ 80) :
    Calls Tryd.prog 10 #[.int .i64 (N : Int), .slice a ls.length c] W fun e w' => ∃ p q g, e = .returned (.tuple #[.pointer (some ⟨p, 0, none⟩), .pointer (some ⟨q, 0, none⟩)]) ∧ PIn (GP A p) (GR q) w [] [] g g w' ∧ g.Fine ∧ g.n = N ∧ g.len ≤ 60 := by
  obtain ⟨hv1, hv2, hv3⟩ := hv
  unfold maxLen at hv2
  have HV := Lib.hid hv3; clear hv3
  have HBD : Hid (∀ k, k < ls.length → -9223372036854775808 ≤ ls.getD k 0 ∧ ls.getD k 0 ≤ 9223372036854775807) := fun k hk => hls _ (by simp [List.getD, hk])
  have HE := Lib.hid (env00 hS)
  have HN := Lib.hid (goNew (w := w) A hB (N : Int) ⟨by omega, by omega⟩)
  have HG0 : Hid ((newG (N : Int)).Fine ∧ (newG (N : Int)).n = N ∧ (newG (N : Int)).len ≤ 20) := ⟨newG_fine _, by simp only [newG]; omega, by simp only [newG, Gr.len, List.length_nil]; omega⟩
  have HSTA := Lib.hid (fun p W (h : GIn (GP A p) w [] (newG (N : Int)) W) => PIn.start h (N : Int) ⟨by omega, by omega⟩)
  generalize newG (N : Int) = g0 at *
  clear hls hS hB
  generalize ls.length = m at *
  go_enter Tryd.func10, Tryd.ntmps10
  go_wp2_with fail
  refine HN.out.mono ?_
  rintro e w1 ⟨p, rfl, hG⟩
  have HS1 := Lib.hid (HSTA.out p _ hG)
  clear hG
  go_wp2_with fail
  refine HS1.out.mono ?_
  rintro e w2 ⟨q, rfl, hP⟩
  have HP := Lib.hid hP
  clear hP HN HSTA HS1
  go_wp2_with fail
  go_loopw [8, 9, 10, 11] (fun i _ _ _ wr => ∃ (k : Nat) (g : Gr), 2 * k ≤ m + 1 ∧ i = .int .i64 ((2 * k : Nat) : Int) ∧ PIn (GP A p) (GR q) w [] [] g g wr ∧ Hid (g.Fine ∧ g.n = N ∧ g.len ≤ 20 + k)) (fun i _ _ _ _ => m + 2 - (intOf i).toNat)
  case atStart => exact ⟨0, g0, by omega, rfl, HP.out, ⟨HG0.out.1, HG0.out.2.1, by have := HG0.out.2.2; omega⟩⟩
  case round =>
    obtain ⟨k, g, hk, rfl, hP, HG⟩ := hrel
    clear HP
    by_cases hlt : 2 * k + 1 < m
    · obtain ⟨b, off, ha, hb, hc⟩ := HV.out.resolve_left (by omega)
      subst ha
      have HC : Hid (∀ W, Below w.heap.size w W → W.cell? ⟨b, off + 2 * k, none⟩ = some (.int .i64 (ls.getD (2 * k) 0)) ∧ W.cell? ⟨b, off + (2 * k + 1), none⟩ = some (.int .i64 (ls.getD (2 * k + 1) 0))) := fun W hW => ⟨(hW.cell (p := ⟨b, off + 2 * k, none⟩) hb).trans (hc (2 * k) (by omega)), (hW.cell (p := ⟨b, off + (2 * k + 1), none⟩) hb).trans (hc (2 * k + 1) hlt)⟩
      obtain ⟨z1, z2⟩ := HBD.out (2 * k) (by omega)
      obtain ⟨z3, z4⟩ := HBD.out (2 * k + 1) hlt
      clear hc
      generalize ls.getD (2 * k) 0 = x0 at *
      generalize ls.getD (2 * k + 1) 0 = x1 at *
      have hd1 : decide (2 * k + 1 < m) = true := decide_eq_true hlt
      have hgl : g.len ≤ 20 + k := HG.out.2.2
      have hgl2 : g.len ≤ 100 := by omega
      have HLE := Lib.hid (piRLen hP)
      have NA := Lib.hid (fun W => number_any x0 (2 * (g.len : Int) + 2) W (by omega) (by omega) z1 z2)
      have NB := Lib.hid (fun W => number_any x1 (2 * (g.len : Int) + 2) W (by omega) (by omega) z3 z4)
      have HIB : Hid (∀ r : Int, 0 ≤ r → r < 2 * (g.len : Int) + 2 → g.isB r = true) := fun r h0 h1 => isB_lt g r h0 h1
      have bx1 := Int.emod_nonneg x0 (show (2 * (g.len : Int) + 2) ≠ 0 by omega)
      have bx2 := Int.emod_lt_of_pos x0 (show (0 : Int) < 2 * (g.len : Int) + 2 by omega)
      have by1 := Int.emod_nonneg x1 (show (2 * (g.len : Int) + 2) ≠ 0 by omega)
      have by2 := Int.emod_lt_of_pos x1 (show (0 : Int) < 2 * (g.len : Int) + 2 by omega)
      generalize x0 % (2 * (g.len : Int) + 2) = xa at *
      generalize x1 % (2 * (g.len : Int) + 2) = xb at *
      have hm := andG_mk HG.out.1 xa xb (HIB.out xa bx1 bx2) (HIB.out xb by1 by2) (by omega)
      have HNX : Hid ((andG g xa xb).1.Fine ∧ (andG g xa xb).1.n = N ∧ (andG g xa xb).1.len ≤ 20 + (k + 1)) := ⟨hm.fine, (andG_n _ _ _).trans HG.out.2.1, by have := hm.len; omega⟩
      have H1 := Lib.hid (fun W (h : PIn (GP A p) (GR q) w [] [] g g W) => piAnd HE.out h xa xb (in64_of bx1 (by omega)) (in64_of by1 (by omega)))
      have H2 := Lib.hid (fun W (h : PIn (GP A p) (GR q) w [] [] (andG g xa xb).1 g W) => piRAnd h xa xb (in64_of bx1 (by omega)) (in64_of by1 (by omega)))
      generalize (andG g xa xb).2 = l2 at *
      generalize (andG g xa xb).1 = g2 at *
      clear hm bx1 bx2 by1 by2 hP z1 z2 z3 z4
      have i0 : (0 : Int) ≤ 2 * (k : Int) := by omega
      have i1 : 2 * (k : Int) < (m : Int) := by omega
      have i2 : (0 : Int) ≤ 2 * (k : Int) + 1 := by omega
      have i3 : 2 * (k : Int) + 1 < (m : Int) := by omega
      go_wp2_with fail
      refine HLE.out.mono ?_
      rintro e w3 ⟨rfl, hP3⟩
      obtain ⟨c0, c1⟩ := HC.out _ hP3.below
      have H1W := Lib.hid (H1.out _ hP3)
      clear hP3
      go_wp2_with fail
      refine (NA.out _).mono ?_
      rintro e w' ⟨rfl, rfl⟩
      go_wp2_with fail
      refine (NB.out _).mono ?_
      rintro e w' ⟨rfl, rfl⟩
      go_wp2_with fail
      refine H1W.out.mono ?_
      rintro e w4 ⟨rfl, hP4⟩
      have H2W := Lib.hid (H2.out _ hP4)
      clear hP4
      go_wp2_with fail
      refine H2W.out.mono ?_
      rintro e w5 ⟨rfl, hP5⟩
      have HP5 := Lib.hid hP5
      clear hP5
      go_wp2_with fail
      go_roundw
      case rel => exact ⟨k + 1, g2, by omega, by go_num, HP5.out, HNX.out⟩
      case measure => simp [intOf]; omega
    · have hd1 : decide (2 * k + 1 < m) = false := decide_eq_false hlt
      have HP := Lib.hid hP
      have HL : Hid (g.len ≤ 60) := by have := HG.out.2.2; unfold Hid; omega
      clear hP
      go_wp2_with fail
      go_ret2
      exact ⟨p, q, g, rfl, HP.out, HG.out.1, HG.out.2.1, HL.out⟩
end Go.Proofs.YtbighmmjmklioaaDoor
