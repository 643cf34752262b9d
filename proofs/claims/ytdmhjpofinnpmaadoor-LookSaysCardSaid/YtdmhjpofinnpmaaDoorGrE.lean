/- The contracts of graph's And and Input: what 'andG', 'inG' say. Conditions: the graph lies in memory as 'GrM' says; the two errors lie as 'Sents2' says; the numbers are 64-bit ints. -/
import Derived.Test.YtdmhjpofinnpmaaDoorGrD
namespace Go.Proofs.YtdmhjpofinnpmaaDoor
open Go.RowKit Go.Maps

/-- What a call on a graph leaves. -/
def GrPost (w : World) (A : Nat → Addr) (v : Value) (S : List Nat) (r : Gr × Int) (e : Ending) (w' : World) : Prop :=
  e = .returned (.int .i64 r.2) ∧ (∃ S', GrM w' A v S' r.1 ∧ Fresh w S S') ∧ Chg S w w'
theorem Sents2.chg {w w' : World} {A : Nat → Addr} {S : List Nat} {B : Nat} (h : Sents2 w A) (hb : ∀ g ∈ [(0 : Nat), 1], g < B) (hS : ∀ i ∈ S, B ≤ i) (hc : Chg S w w') : Sents2 w' A := by
  have k : ∀ g v, g < B → w.cell? ⟨g, 0, none⟩ = some v → w'.cell? ⟨g, 0, none⟩ = some v := fun g v hg e => (hc.cell (World.block_lt_of_cell? w _ e) (fun hm => absurd hg (Nat.not_lt.2 (hS g hm)))).trans e
  exact ⟨k _ _ (hb _ (by simp)) h.c1, k _ _ (hb _ (by simp)) h.c3⟩

theorem zeroJ (w : World) : (zeroValue 3).run Tryd.prog w = .ok (.int .i64 0) w := by kernel_rfl
theorem GrPost.of {w w' : World} {A : Nat → Addr} {v : Value} {S : List Nat} {g : Gr} {z : Int} (q : Nat) (h : GrM w A v S g) (hw : w' = w.drewN q) : GrPost w A v S (g, z) (.returned (.int .i64 z)) w' := by
  subst hw
  exact ⟨rfl, ⟨S, h.below (below_drewN (Below.refl _ _) q), Fresh.refl _ _⟩, chg_drewN _ _⟩

set_option maxRecDepth 8000 in
set_option maxHeartbeats 4000000 in
theorem gand_no {A : Nat → Addr} {v : Value} {S : List Nat} {g : Gr} (w : World) (h : GrM w A v S g) (hs : Sents2 w A) (a b : Int) (ha : in64 a) (hb : in64 b) (hno : (g.isB a && g.isB b) = false) :
    Calls Tryd.prog 41 #[v, .int .i64 a, .int .i64 b] w (GrPost w A v S (g.fail 104, 0)) := by
  obtain ⟨ha1, ha2⟩ := ha
  obtain ⟨hb1, hb2⟩ := hb
  have hlen : g.len ≤ 8000 := by obtain ⟨p, m, u, N, D, h⟩ := h; exact h.len
  have hl0 : (0 : Int) ≤ (g.len : Int) := by omega
  have HL := Lib.hid (fun q => glen_any (w.drewN q) (h.below (below_drewN (Below.refl _ _) q)))
  have HL0 := Lib.hid (glen_any w h)
  have HIA := Lib.hid (fun W => gis_any a (g.len : Int) W ha1 ha2)
  have HIB := Lib.hid (fun W => gis_any b (g.len : Int) W hb1 hb2)
  have s3 := hs.c3
  have HF := Lib.hid (fun q => gfail_any (w.drewN q) (h.below (below_drewN (Below.refl _ _) q)) 104 (.inr rfl))
  rw [errC_ran] at HF
  obtain ⟨p, rfl⟩ : ∃ p, v = .pointer p := by obtain ⟨p, m, u, N, D, h⟩ := h; exact ⟨_, h.val⟩
  clear h hs
  have HNO := Lib.hid hno
  clear hno
  cases hA : g.isB a with
  | true =>
    have HBF := Lib.hid (show (decide (0 ≤ b) && decide (b / 2 ≤ (g.len : Int))) = false by
      have := HNO.out
      rw [hA, Bool.true_and] at this
      exact this)
    have HAT := Lib.hid (show (decide (0 ≤ a) && decide (a / 2 ≤ (g.len : Int))) = true from hA)
    rw [HBF.out] at HIB
    rw [HAT.out] at HIA
    clear hA
    go_enter Tryd.func41, Tryd.ntmps41
    go_wp2_with fail
    refine HL0.out.mono ?_
    rintro e w' ⟨rfl, q, rfl⟩
    go_wp2_with fail
    refine (HIA.out _).mono ?_
    rintro e w' ⟨rfl, rfl⟩
    go_wp2_with fail
    refine (HL.out _).mono ?_
    rintro e w' ⟨rfl, q2, rfl⟩
    go_wp2_with fail
    refine (HIB.out _).mono ?_
    rintro e w' ⟨rfl, rfl⟩
    go_wp2_with fail
    refine (HF.out _).mono ?_
    rintro e w' ⟨rfl, hG, hC⟩
    have HG := Lib.hid (And.intro hG hC)
    clear hG hC
    go_wp2_with fail
    go_ret
    exact ⟨rfl, ⟨S, HG.out.1, Fresh.refl _ _⟩, (chg_drewN _ _).trans HG.out.2 (Fresh.refl _ _)⟩
  | false =>
    have HAF := Lib.hid (show (decide (0 ≤ a) && decide (a / 2 ≤ (g.len : Int))) = false from hA)
    rw [HAF.out] at HIA
    clear hA
    go_enter Tryd.func41, Tryd.ntmps41
    go_wp2_with fail
    refine HL0.out.mono ?_
    rintro e w' ⟨rfl, q, rfl⟩
    go_wp2_with fail
    refine (HIA.out _).mono ?_
    rintro e w' ⟨rfl, rfl⟩
    go_wp2_with fail
    refine (HF.out _).mono ?_
    rintro e w' ⟨rfl, hG, hC⟩
    have HG := Lib.hid (And.intro hG hC)
    clear hG hC
    go_wp2_with fail
    go_ret
    exact ⟨rfl, ⟨S, HG.out.1, Fresh.refl _ _⟩, (chg_drewN _ _).trans HG.out.2 (Fresh.refl _ _)⟩

set_option maxRecDepth 8000 in
set_option maxHeartbeats 2000000 in
theorem gand_yes {A : Nat → Addr} {v : Value} {S : List Nat} {g : Gr} (w : World) (h : GrM w A v S g) (hs : Sents2 w A) (x y : Int) (hxb : g.isB x = true) (hyb : g.isB y = true) (hyx : y < x) (a b : Int) (hab : (x = a ∧ y = b) ∨ (x = b ∧ y = a)) :
    Calls Tryd.prog 41 #[v, .int .i64 a, .int .i64 b] w (GrPost w A v S (andN g x y)) := by
  have hx := (isB_iff g x).1 hxb
  have hy := (isB_iff g y).1 hyb
  have hlen : g.len ≤ 8000 := by obtain ⟨p, m, u, N, D, h⟩ := h; exact h.len
  have hl0 : (0 : Int) ≤ (g.len : Int) := by omega
  have hx64 : x ≤ 20000 := by omega
  have hy64 : y ≤ 20000 := by omega
  have hx0 := hx.1
  have hy0 := hy.1
  have HL := Lib.hid (fun q => glen_any (w.drewN q) (h.below (below_drewN (Below.refl _ _) q)))
  have HL0 := Lib.hid (glen_any w h)
  have HIX : Hid (∀ W, Calls Tryd.prog 49 #[.int .i64 x, .int .i64 (g.len : Int)] W fun e w' => e = .returned (.bool true) ∧ W = w') := fun W => by
    have := gis_any x (g.len : Int) W (by omega) (by omega)
    rw [show (decide (0 ≤ x) && decide (x / 2 ≤ (g.len : Int))) = true from hxb] at this
    exact this
  have HIY : Hid (∀ W, Calls Tryd.prog 49 #[.int .i64 y, .int .i64 (g.len : Int)] W fun e w' => e = .returned (.bool true) ∧ W = w') := fun W => by
    have := gis_any y (g.len : Int) W (by omega) (by omega)
    rw [show (decide (0 ≤ y) && decide (y / 2 ≤ (g.len : Int))) = true from hyb] at this
    exact this
  have HNT := Lib.hid (fun W => gnot_any y W hy0 (by omega))
  have s1 := hs.c1
  have HF := Lib.hid (fun q => gfail_any (w.drewN q) (h.below (below_drewN (Below.refl _ _) q)) 102 (.inl rfl))
  rw [errC_lim] at HF
  have HADD := Lib.hid (fun q hn hl => gadd_any (w.drewN q) (h.below (below_drewN (Below.refl _ _) q)) x y ⟨by omega, by omega⟩ ⟨by omega, by omega⟩ hn hl)
  have HOF := Lib.hid (fun z q w' hw => GrPost.of (w' := w') (z := z) q h hw)
  have HKEY := Lib.hid (keyA x y ⟨by omega, by omega⟩ ⟨by omega, by omega⟩)
  obtain ⟨p, m, u, N, D, h⟩ := h
  obtain rfl := h.val
  have c2 := h.c2
  have HMD : Hid (∀ q, (w.drewN q).ownsMap Tryd.prog 49 (plainElem Tryd.prog 3) m N D) := fun q => by
    obtain ⟨es, clock, k1, k2⟩ := h.map
    exact ⟨es, clock, k1, k2⟩
  have HMG := Lib.hid (h.mapg.2 x y ⟨by omega, by omega⟩ ⟨by omega, by omega⟩)
  clear h hs hx hy hxb hyb
  have HAN : Hid (andN g x y = if y = 0 ∨ x = notI y then (g, 0) else if y = 1 ∨ x = y then (g, x) else if (x, y) ∈ g.ands then (g, g.litOf (x, y)) else if 8000 ≤ g.len then (g.fail 102, 0) else (⟨g.n, g.ands ++ [(x, y)], g.bad⟩, 2 * ((g.len : Int) + 1))) := rfl
  generalize andN g x y = R at *
  generalize notI y = z at *
  have hge : ¬ x < y := by omega
  rcases hab with ⟨rfl, rfl⟩ | ⟨rfl, rfl⟩
  all_goals
    go_enter Tryd.func41, Tryd.ntmps41
    go_wp2_with fail
    refine HL0.out.mono ?_
    rintro e w' ⟨rfl, q, rfl⟩
    go_wp2_with fail
    first | (with_reducible refine (HIX.out _).mono ?_) | (with_reducible refine (HIY.out _).mono ?_)
    rintro e w' ⟨rfl, rfl⟩
    go_wp2_with fail
    refine (HL.out _).mono ?_
    rintro e w' ⟨rfl, q2, rfl⟩
    go_wp2_with fail
    first | (with_reducible refine (HIX.out _).mono ?_) | (with_reducible refine (HIY.out _).mono ?_)
    rintro e w' ⟨rfl, rfl⟩
    by_cases h1 : y = 0
    · have HR := Lib.hid (show R = (g, 0) by rw [HAN.out, if_pos (.inl h1)])
      have h1b : (y == 0) = true := by simp [h1]
      clear h1
      go_wp2_with fail
      go_ret
      rw [HR.out]
      exact HOF.out _ _ _ rfl
    · have h1b : (y == 0) = false := by simp [h1]
      have H1 := Lib.hid h1
      clear h1
      go_wp2_with fail
      refine (HNT.out _).mono ?_
      rintro e w' ⟨rfl, rfl⟩
      by_cases h2 : x = z
      · have HR := Lib.hid (show R = (g, 0) by rw [HAN.out, if_pos (.inr h2)])
        have h2b : (x == z) = true := by simp [h2]
        clear h2
        go_wp2_with fail
        go_ret
        rw [HR.out]
        exact HOF.out _ _ _ rfl
      · have h2b : (x == z) = false := by simp [h2]
        have H2 := Lib.hid h2
        clear h2
        by_cases h3 : y = 1
        · have HR := Lib.hid (show R = (g, x) by rw [HAN.out, if_neg (by intro h; exact h.elim H1.out H2.out), if_pos (.inl h3)])
          have h3b : (y == 1) = true := by simp [h3]
          clear h3
          go_wp2_with fail
          go_ret
          rw [HR.out]
          exact HOF.out _ _ _ rfl
        · have h3b : (y == 1) = false := by simp [h3]
          have H3 := Lib.hid h3
          clear h3
          have h4 : ¬ x = y := by omega
          · have h4b : (x == y) = false := by simp [h4]
            have H4 := Lib.hid h4
            clear h4
            have HR1 := Lib.hid (HAN.out.trans ((if_neg (by intro h; exact h.elim H1.out H2.out)).trans (if_neg (by intro h; exact h.elim H3.out H4.out))))
            by_cases h5 : (x, y) ∈ g.ands
            · have HR := Lib.hid (HR1.out.trans (if_pos h5))
              have hh : Maps.has D (klA x y) = true := HMG.out.1.trans (decide_eq_true h5)
              have HAT := Lib.hid (HMG.out.2 h5)
              generalize hlv : g.litOf (x, y) = lv at *
              have HCC : Hid (∀ c : Int, D.atKey (klA x y) (.lit (.int .i64 0)) = .lit (.int .i64 c) → c = lv) := fun c hc => by
                rw [HAT.out] at hc
                injection hc with hc
                injection hc with _ hc
                exact hc.symm
              clear h5 hlv HAT
              go_wp2_with (at_lookup; refine wpList_lookup_own_ok_int _ rfl _ _ 61 rfl 49 3 .i64 lawA Tryd.underlying61 Tryd.underlying3 (zeroJ _) m N D rfl (HMD.out _) _ _ rfl HKEY.out ?_; intro c' hat hwc; obtain rfl : c' = lv := HCC.out c' hat; clear hat hwc)
              go_ret
              rw [HR.out]
              exact HOF.out _ _ _ rfl
            · have hh : Maps.has D (klA x y) = false := HMG.out.1.trans (decide_eq_false h5)
              have HR2 := Lib.hid (HR1.out.trans (if_neg h5))
              have H5 := Lib.hid h5
              clear h5
              by_cases h6 : 8000 ≤ g.len
              · have HR := Lib.hid (HR2.out.trans (if_pos h6))
                have h6b : decide ((8000 : Int) ≤ (g.len : Int)) = true := decide_eq_true (by omega)
                have h6c : decide (8000 ≤ g.len) = true := decide_eq_true h6
                clear h6
                go_wp2_with (first
                  | (at_lookup; refine wpList_lookup_own_ok_int _ rfl _ _ 61 rfl 49 3 .i64 lawA Tryd.underlying61 Tryd.underlying3 (zeroJ _) m N D rfl (HMD.out _) _ _ rfl HKEY.out ?_; intro c' hat hwc; clear hat hwc)
                  | (go_at_call 50; refine (HL.out _).mono ?_; rintro e w' ⟨rfl, q3, rfl⟩)
                  | (go_at_call 51; refine (HF.out _).mono ?_; rintro e w' ⟨rfl, hG, hC⟩; have HG := Lib.hid (And.intro hG hC); clear hG hC))
                go_ret
                rw [HR.out]
                exact ⟨rfl, ⟨S, HG.out.1, Fresh.refl _ _⟩, (chg_drewN _ _).trans HG.out.2 (Fresh.refl _ _)⟩
              · have HR := Lib.hid (HR2.out.trans (if_neg h6))
                have HAD := Lib.hid (fun q => HADD.out q H5.out (by omega))
                have h6b : decide ((8000 : Int) ≤ (g.len : Int)) = false := decide_eq_false (by omega)
                have h6c : decide (8000 ≤ g.len) = false := decide_eq_false h6
                clear h6 HADD
                go_wp2_with (first
                  | (at_lookup; refine wpList_lookup_own_ok_int _ rfl _ _ 61 rfl 49 3 .i64 lawA Tryd.underlying61 Tryd.underlying3 (zeroJ _) m N D rfl (HMD.out _) _ _ rfl HKEY.out ?_; intro c' hat hwc; clear hat hwc)
                  | (go_at_call 50; refine (HL.out _).mono ?_; rintro e w' ⟨rfl, q3, rfl⟩)
                  | (go_at_call 53; refine (HAD.out _).mono ?_; rintro e w' ⟨rfl, hG, hC⟩; have HG := Lib.hid (And.intro hG hC); clear hG hC))
                go_ret
                rw [HR.out]
                obtain ⟨⟨S', hG, hF⟩, hC⟩ := HG.out
                exact ⟨rfl, ⟨S', hG, hF⟩, (chg_drewN _ _).trans hC (Fresh.refl _ _)⟩
set_option maxRecDepth 8000 in
set_option maxHeartbeats 2000000 in
theorem gand_same {A : Nat → Addr} {v : Value} {S : List Nat} {g : Gr} (w : World) (h : GrM w A v S g) (x : Int) (hxb : g.isB x = true) :
    Calls Tryd.prog 41 #[v, .int .i64 x, .int .i64 x] w (GrPost w A v S (andN g x x)) := by
  have hx := (isB_iff g x).1 hxb
  have hlen : g.len ≤ 8000 := by obtain ⟨p, m, u, N, D, h⟩ := h; exact h.len
  have hl0 : (0 : Int) ≤ (g.len : Int) := by omega
  have hx64 : x ≤ 20000 := by omega
  have hx0 := hx.1
  have HL := Lib.hid (fun q => glen_any (w.drewN q) (h.below (below_drewN (Below.refl _ _) q)))
  have HL0 := Lib.hid (glen_any w h)
  have HIX : Hid (∀ W, Calls Tryd.prog 49 #[.int .i64 x, .int .i64 (g.len : Int)] W fun e w' => e = .returned (.bool true) ∧ W = w') := fun W => by
    have := gis_any x (g.len : Int) W (by omega) (by omega)
    rw [show (decide (0 ≤ x) && decide (x / 2 ≤ (g.len : Int))) = true from hxb] at this
    exact this
  have HNT := Lib.hid (fun W => gnot_any x W hx0 (by omega))
  have HOF := Lib.hid (fun z q w' hw => GrPost.of (w' := w') (z := z) q h hw)
  have hz := (notI_of x hx0).2.2.2.2
  have HAN : Hid (andN g x x = if x = 0 then (g, 0) else (g, x)) := by
    unfold Hid andN
    by_cases h0 : x = 0
    · rw [if_pos (.inl h0), if_pos h0]
    · rw [if_neg (by intro h; exact h.elim h0 (fun e => hz e.symm)), if_pos (.inr rfl), if_neg h0]
  obtain ⟨p, rfl⟩ : ∃ p, v = .pointer p := by obtain ⟨p, m, u, N, D, h⟩ := h; exact ⟨_, h.val⟩
  clear h hx hxb
  generalize andN g x x = R at *
  have hzb : (x == notI x) = false := by simp; omega
  generalize notI x = z at *
  clear hz
  go_enter Tryd.func41, Tryd.ntmps41
  go_wp2_with fail
  refine HL0.out.mono ?_
  rintro e w' ⟨rfl, q, rfl⟩
  go_wp2_with fail
  refine (HIX.out _).mono ?_
  rintro e w' ⟨rfl, rfl⟩
  go_wp2_with fail
  refine (HL.out _).mono ?_
  rintro e w' ⟨rfl, q2, rfl⟩
  go_wp2_with fail
  refine (HIX.out _).mono ?_
  rintro e w' ⟨rfl, rfl⟩
  by_cases h1 : x = 0
  · have HR := Lib.hid (HAN.out.trans (if_pos h1))
    have h1b : (x == 0) = true := by simp [h1]
    clear h1 hzb
    go_wp2_with fail
    go_ret
    rw [HR.out]
    exact HOF.out _ _ _ rfl
  · have HR := Lib.hid (HAN.out.trans (if_neg h1))
    have h1b : (x == 0) = false := by simp [h1]
    clear h1
    go_wp2_with fail
    refine (HNT.out _).mono ?_
    rintro e w' ⟨rfl, rfl⟩
    by_cases h3 : x = 1
    · have h3b : (x == 1) = true := by simp [h3]
      clear h3
      go_wp2_with fail
      go_ret
      rw [HR.out]
      exact HOF.out _ _ _ rfl
    · have h3b : (x == 1) = false := by simp [h3]
      clear h3
      go_wp2_with fail
      go_ret
      rw [HR.out]
      exact HOF.out _ _ _ rfl
theorem gand_any {A : Nat → Addr} {v : Value} {S : List Nat} {g : Gr} (w : World) (h : GrM w A v S g) (hs : Sents2 w A) (a b : Int) (ha : in64 a) (hb : in64 b) :
    Calls Tryd.prog 41 #[v, .int .i64 a, .int .i64 b] w (GrPost w A v S (andG g a b)) := by
  cases hc : (g.isB a && g.isB b) with
  | false =>
    have := gand_no w h hs a b ha hb hc
    unfold andG
    rw [if_neg (by simp [hc])]
    exact this
  | true =>
    unfold andG
    rw [if_pos hc]
    rw [Bool.and_eq_true] at hc
    have hm := max_isB g a b hc.1 hc.2
    by_cases e : a = b
    · subst e
      rw [Int.max_self, Int.min_self]
      exact gand_same w h a hc.1
    · refine gand_yes w h hs (max a b) (min a b) hm.1 hm.2 (by omega) a b ?_
      omega
end Go.Proofs.YtdmhjpofinnpmaaDoor
