/- The law PrefixMatrix: true for whatever game. Conditions: the game reads as lists of 64-bit ints, their reach as it is; the three errors lie as 'Sents3' says. -/
import Derived.Test.YtjpchjbpolcndaaDoorOpenGm
namespace Go.Proofs.YtjpchjbpolcndaaDoor
open Go.RowKit

theorem near64 {xss : List (List Int)} (h : (xss.all fun xs => xs.all nearB) = true) (hi : ∀ xs ∈ xss, ∀ y ∈ xs, -9223372036854775808 ≤ y ∧ y ≤ 9223372036854775807) : ∀ xs ∈ xss, ∀ l ∈ xs, -9223372036854775807 ≤ l ∧ l ≤ 9223372036854775807 := fun xs hx l hl =>
  ⟨by have := (nearB_iff l).1 (List.all_eq_true.1 (List.all_eq_true.1 h xs hx) l hl); omega, (hi xs hx l hl).2⟩
theorem len_sumTo (xss : List (List Int)) (xs : List Int) (h : xs ∈ xss) : xs.length ≤ sumTo xss xss.length := by
  obtain ⟨i, hi, rfl⟩ := List.getElem_of_mem h
  have h1 := sumTo_succ xss i hi
  have h2 := sumTo_mono xss (i + 1) xss.length (by omega)
  have e : xss.getD i [] = xss[i] := by simp [List.getD, hi]
  rw [e] at h1
  omega

set_option maxRecDepth 8000 in
set_option maxHeartbeats 4000000 in
theorem lawMatrix_any (A : Nat → Addr) (ex : Bool) (vo vi : Value) (ol il : List Int) (a : Option Addr) (c : Nat) (xss : List (List Int)) (w : World) (hS : Sents3 w A) (ho : Row w vo ol) (hi : Row w vi il) (hr : RowsAt w a c xss) (hob : ∀ z ∈ ol, -9223372036854775808 ≤ z ∧ z ≤ 9223372036854775807) (hib : ∀ z ∈ il, -9223372036854775808 ≤ z ∧ z ≤ 9223372036854775807)
    (hrb : ∀ xs ∈ xss, ∀ z ∈ xs, -9223372036854775808 ≤ z ∧ z ≤ 9223372036854775807) (hlen : ∀ xs ∈ xss, xs.length ≤ 140737488355328) :
    Calls Tryd.prog 8 #[.agg #[.bool ex, vo, vi, .slice a xss.length c]] w fun e w' => e = .returned (.bool true) ∧ Below w.heap.size w w' := by
  have HF := Lib.hid (fun W (hW : Below w.heap.size w W) => first6_any A W (hS.keep hW))
  have HNA := Lib.hid (fun W (hW : Below w.heap.size w W) => nearAll_any a c xss W (hr.keep hW))
  have HNR := Lib.hid (fun v (r : Bool) W (h : ∃ xs, Row W v xs ∧ xs.all nearB = r) => show Calls Tryd.prog 40 #[v] W (fun e w' => e = .returned (.bool r) ∧ W = w') by
    obtain ⟨xs, h1, h2⟩ := h
    rw [← h2]
    exact near_any v xs W h1)
  have HCO := Lib.hid (fun W (hW : Below w.heap.size w W) (h : xss.length ≤ 60) => count_any a c xss W (hr.keep hW) h hlen)
  have HMX := Lib.hid (fun W (hW : Below w.heap.size w W) (h1 : ol.length + il.length ≤ 60) (h2 : xss.length ≤ 60) (h3 : sumTo xss xss.length ≤ 300) (h4 : (xss.all fun xs => xs.all nearB) = true) => matrix_any ex vo vi ol il a c xss W (ho.keep hW) (hi.keep hW) (hr.keep hW) (by omega) (fun v hv => (List.mem_append.1 hv).elim (hob v) (hib v)) (near64 h4 hrb) (fun xs hx => by have := len_sumTo xss xs hx; omega) (by omega))
  have HMR := Lib.hid (fun W (hW : Below w.heap.size w W) (h1 : ol.length + il.length ≤ 60) (h2 : xss.length ≤ 60) (h3 : sumTo xss xss.length ≤ 300) (h4 : (xss.all fun xs => xs.all nearB) = true) => refMatrix_any ex vo vi ol il a c xss W (ho.keep hW) (hi.keep hW) (hr.keep hW) (by omega) (by omega) (near64 h4 hrb) (fun xs hx => by have := len_sumTo xss xs hx; omega) (by omega))
  have HSC := Lib.hid (fun W a' c' a'' c'' (ys : List (List Int)) (h1 : RowsAt W a' c' ys) (h2 : RowsAt W a'' c'' ys) => sameClauses_yes a' a'' c' c'' ys W h1 h2)
  have HCX : Hid (∀ W, Below (w.alloc (.cells #[.bool ex, vo, vi, .slice a xss.length c] 26)).heap.size (w.alloc (.cells #[.bool ex, vo, vi, .slice a xss.length c] 26)) W → (W.cell? ⟨w.heap.size, 0, none⟩ = some (.bool ex) ∧ W.cell? ⟨w.heap.size, 1, none⟩ = some vo ∧ W.cell? ⟨w.heap.size, 2, none⟩ = some vi ∧ W.cell? ⟨w.heap.size, 3, none⟩ = some (.slice a xss.length c)) ∧ Below w.heap.size w W) := fun W h =>
    ⟨(cells4 w W _ _ _ _ 26 h).1, ((Below.refl _ w).alloc (Nat.le_refl _) _).trans (h.mono (by simp))⟩
  have HRO := Lib.hid (fun W (hW : Below w.heap.size w W) => ho.keep hW)
  have HRI := Lib.hid (fun W (hW : Below w.heap.size w W) => hi.keep hW)
  have HA := Lib.hid (fun o => show Below w.heap.size w (w.alloc o) from (Below.refl _ w).alloc (Nat.le_refl _) _)
  obtain ⟨ao, co, rfl, _⟩ := ho
  obtain ⟨ai, ci, rfl, _⟩ := hi
  clear hr hob hib hrb hlen hS
  generalize hno : ol.length = no at *
  generalize hni : il.length = ni at *
  generalize hnx : xss.length = nx at *
  have HLN := Lib.hid (And.intro hno (And.intro hni hnx))
  clear hno hni hnx
  by_cases h1 : 30 < no
  · have d1 : decide ((30 : Int) < (no : Int)) = true := decide_eq_true (by omega)
    have d1' : decide (30 < no) = true := decide_eq_true h1
    go_enter Tryd.func8, Tryd.ntmps8
    go_wp2_with (first
      | (go_at_call 27; refine (HF.out _ (HA.out _)).mono ?_; rintro e w1 ⟨rfl, hb1⟩; have hb1 := hb1; obtain ⟨⟨g0, g1, g2, g3⟩, hbw1⟩ := HCX.out _ hb1))
    go_ret
    exact ⟨rfl, hbw1⟩
  have d1 : decide ((30 : Int) < (no : Int)) = false := decide_eq_false (by omega)
  have d1' : decide (30 < no) = false := decide_eq_false h1
  by_cases h2 : 30 < ni
  · have d2 : decide ((30 : Int) < (ni : Int)) = true := decide_eq_true (by omega)
    have d2' : decide (30 < ni) = true := decide_eq_true h2
    go_enter Tryd.func8, Tryd.ntmps8
    go_wp2_with (first
      | (go_at_call 27; refine (HF.out _ (HA.out _)).mono ?_; rintro e w1 ⟨rfl, hb1⟩; have hb1 := hb1; obtain ⟨⟨g0, g1, g2, g3⟩, hbw1⟩ := HCX.out _ hb1))
    go_ret
    exact ⟨rfl, hbw1⟩
  have d2 : decide ((30 : Int) < (ni : Int)) = false := decide_eq_false (by omega)
  have d2' : decide (30 < ni) = false := decide_eq_false h2
  by_cases h3 : 60 < nx
  · have d3 : decide ((60 : Int) < (nx : Int)) = true := decide_eq_true (by omega)
    have d3' : decide (60 < nx) = true := decide_eq_true h3
    go_enter Tryd.func8, Tryd.ntmps8
    go_wp2_with (first
      | (go_at_call 27; refine (HF.out _ (HA.out _)).mono ?_; rintro e w1 ⟨rfl, hb1⟩; have hb1 := hb1; obtain ⟨⟨g0, g1, g2, g3⟩, hbw1⟩ := HCX.out _ hb1))
    go_ret
    exact ⟨rfl, hbw1⟩
  have d3 : decide ((60 : Int) < (nx : Int)) = false := decide_eq_false (by omega)
  have d3' : decide (60 < nx) = false := decide_eq_false h3
  have h60 : nx ≤ 60 := by omega
  cases hNA : (xss.all fun xs => xs.all nearB) with
  | false =>
    rw [hNA] at HNA
    clear hNA
    go_enter Tryd.func8, Tryd.ntmps8
    go_wp2_with (first
      | (go_at_call 27; refine (HF.out _ (HA.out _)).mono ?_; rintro e w1 ⟨rfl, hb1⟩; have hb1 := hb1; obtain ⟨⟨g0, g1, g2, g3⟩, hbw1⟩ := HCX.out _ hb1)
      | (go_at_call 39; refine (HNA.out _ hbw1).mono ?_; rintro e w' ⟨rfl, rfl⟩))
    go_ret
    exact ⟨rfl, hbw1⟩
  | true =>
    rw [hNA] at HNA
    have HNT := Lib.hid hNA
    clear hNA
    cases hNO : ol.all nearB with
    | false =>
      go_enter Tryd.func8, Tryd.ntmps8
      go_wp2_with (first
        | (go_at_call 27; refine (HF.out _ (HA.out _)).mono ?_; rintro e w1 ⟨rfl, hb1⟩; have hb1 := hb1; obtain ⟨⟨g0, g1, g2, g3⟩, hbw1⟩ := HCX.out _ hb1)
        | (go_at_call 39; refine (HNA.out _ hbw1).mono ?_; rintro e w' ⟨rfl, rfl⟩)
        | (go_at_call 40; refine (HNR.out _ _ _ ⟨_, HRO.out _ hbw1, hNO⟩).mono ?_; rintro e w' ⟨rfl, rfl⟩))
      go_ret
      exact ⟨rfl, hbw1⟩
    | true =>
      cases hNI : il.all nearB with
      | false =>
        go_enter Tryd.func8, Tryd.ntmps8
        go_wp2_with (first
          | (go_at_call 27; refine (HF.out _ (HA.out _)).mono ?_; rintro e w1 ⟨rfl, hb1⟩; have hb1 := hb1; obtain ⟨⟨g0, g1, g2, g3⟩, hbw1⟩ := HCX.out _ hb1)
          | (go_at_call 39; refine (HNA.out _ hbw1).mono ?_; rintro e w' ⟨rfl, rfl⟩)
          | (go_at_call 40; refine (HNR.out _ _ _ (by first | exact ⟨_, HRO.out _ hbw1, hNO⟩ | exact ⟨_, HRI.out _ hbw1, hNI⟩)).mono ?_; rintro e w' ⟨rfl, rfl⟩))
        go_ret
        exact ⟨rfl, hbw1⟩
      | true =>
        by_cases h7 : 300 < sumTo xss nx
        · have d7 : decide ((300 : Int) < (sumTo xss nx : Int)) = true := decide_eq_true (by omega)
          have d7' : decide (300 < sumTo xss nx) = true := decide_eq_true h7
          generalize sumTo xss nx = sm at *
          go_enter Tryd.func8, Tryd.ntmps8
          go_wp2_with (first
            | (go_at_call 27; refine (HF.out _ (HA.out _)).mono ?_; rintro e w1 ⟨rfl, hb1⟩; have hb1 := hb1; obtain ⟨⟨g0, g1, g2, g3⟩, hbw1⟩ := HCX.out _ hb1)
            | (go_at_call 39; refine (HNA.out _ hbw1).mono ?_; rintro e w' ⟨rfl, rfl⟩)
            | (go_at_call 40; refine (HNR.out _ _ _ (by first | exact ⟨_, HRO.out _ hbw1, hNO⟩ | exact ⟨_, HRI.out _ hbw1, hNI⟩)).mono ?_; rintro e w' ⟨rfl, rfl⟩)
            | (go_at_call 41; refine (HCO.out _ hbw1 h60).mono ?_; rintro e w' ⟨rfl, rfl⟩))
          go_ret
          exact ⟨rfl, hbw1⟩
        · have d7 : decide ((300 : Int) < (sumTo xss nx : Int)) = false := decide_eq_false (by omega)
          have d7' : decide (300 < sumTo xss nx) = false := decide_eq_false h7
          have HM := Lib.hid (fun W hW => HMX.out W hW (by omega) h60 (by omega) HNT.out)
          have HR := Lib.hid (fun W hW => HMR.out W hW (by omega) h60 (by omega) HNT.out)
          clear HMX HMR
          generalize sumTo xss nx = sm at *
          have hrr : ∀ b : Bool, (b == b) = true := fun b => by simp
          cases hok : okM (ol ++ il) xss with
          | false =>
            rw [hok] at HM HR
            clear hok
            go_enter Tryd.func8, Tryd.ntmps8
            go_wp2_with (first
              | (go_at_call 27; refine (HF.out _ (HA.out _)).mono ?_; rintro e w1 ⟨rfl, hb1⟩; have hb1 := hb1; obtain ⟨⟨g0, g1, g2, g3⟩, hbw1⟩ := HCX.out _ hb1)
              | (go_at_call 39; refine (HNA.out _ hbw1).mono ?_; rintro e w' ⟨rfl, rfl⟩)
              | (go_at_call 40; refine (HNR.out _ _ _ (by first | exact ⟨_, HRO.out _ hbw1, hNO⟩ | exact ⟨_, HRI.out _ hbw1, hNI⟩)).mono ?_; rintro e w' ⟨rfl, rfl⟩)
              | (go_at_call 41; refine (HCO.out _ hbw1 h60).mono ?_; rintro e w' ⟨rfl, rfl⟩)
              | (go_at_call 42; refine (HM.out _ hbw1).mono ?_; rintro e w2 ⟨⟨u, rfl, hu, _⟩, hb2⟩; obtain rfl := hu trivial; have hb12 := hb1.trans (hb2.mono hb1.size); obtain ⟨⟨x0, x1, x2, x3⟩, hbw2⟩ := HCX.out _ hb12)
              | (go_at_call 43; refine (HR.out _ hbw2).mono ?_; rintro e w3 ⟨⟨u, rfl, hu, _⟩, hb3⟩; obtain rfl := hu trivial; have hb13 := hb12.trans (hb3.mono hb12.size); obtain ⟨_, hbw3⟩ := HCX.out _ hb13)
              | (go_at_call 44; refine (HSC.out _ none 0 none 0 [] ⟨Nat.le_refl _, by unfold maxLen; omega, .inl rfl⟩ ⟨Nat.le_refl _, by unfold maxLen; omega, .inl rfl⟩).mono ?_; rintro e w4 ⟨rfl, hb4⟩))
            go_ret
            exact ⟨rfl, hbw3.trans (hb4.mono hbw3.size)⟩
          | true =>
            rw [hok] at HM HR
            clear hok
            go_enter Tryd.func8, Tryd.ntmps8
            go_wp2_with (first
              | (go_at_call 27; refine (HF.out _ (HA.out _)).mono ?_; rintro e w1 ⟨rfl, hb1⟩; have hb1 := hb1; obtain ⟨⟨g0, g1, g2, g3⟩, hbw1⟩ := HCX.out _ hb1)
              | (go_at_call 39; refine (HNA.out _ hbw1).mono ?_; rintro e w' ⟨rfl, rfl⟩)
              | (go_at_call 40; refine (HNR.out _ _ _ (by first | exact ⟨_, HRO.out _ hbw1, hNO⟩ | exact ⟨_, HRI.out _ hbw1, hNI⟩)).mono ?_; rintro e w' ⟨rfl, rfl⟩)
              | (go_at_call 41; refine (HCO.out _ hbw1 h60).mono ?_; rintro e w' ⟨rfl, rfl⟩)
              | (go_at_call 42; refine (HM.out _ hbw1).mono ?_; rintro e w2 ⟨⟨u, rfl, _, hu⟩, hb2⟩; obtain ⟨a2, c2, rfl, hr2⟩ := (hu trivial).rows; have hb12 := hb1.trans (hb2.mono hb1.size); obtain ⟨⟨x0, x1, x2, x3⟩, hbw2⟩ := HCX.out _ hb12; have HR2 := Lib.hid hr2; clear hr2 hu)
              | (go_at_call 43; refine (HR.out _ hbw2).mono ?_; rintro e w3 ⟨⟨u, rfl, _, hu⟩, hb3⟩; obtain ⟨a3, c3, rfl, hr3⟩ := (hu trivial).rows; have hb13 := hb12.trans (hb3.mono hb12.size); obtain ⟨_, hbw3⟩ := HCX.out _ hb13; have HS3 := Lib.hid (HSC.out _ _ _ _ _ _ (HR2.out.keep hb3) hr3); clear hr3 hu)
              | (go_at_call 44; refine HS3.out.mono ?_; rintro e w4 ⟨rfl, hb4⟩))
            go_ret
            exact ⟨rfl, hbw3.trans (hb4.mono hbw3.size)⟩
end Go.Proofs.YtjpchjbpolcndaaDoor
