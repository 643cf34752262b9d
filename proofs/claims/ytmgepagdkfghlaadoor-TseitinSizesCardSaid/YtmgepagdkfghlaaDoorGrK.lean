/- The contract of graph.Check: what 'checkC' says. Conditions: the circuit reads as pairs and ints of 64 bits, not too many; the two errors lie as 'Sents2' says. -/
import Derived.Test.YtmgepagdkfghlaaDoorGrB
import Derived.Test.YtmgepagdkfghlaaDoorCir
namespace Go.Proofs.YtmgepagdkfghlaaDoor
open Go.RowKit

theorem check_lim {n : Int} {ps : List (Int × Int)} {os : List Int} (h : n < 0 ∨ 8000 < n + (ps.length : Int)) : checkC n ps os = 102 := by unfold checkC; rw [if_pos h]
theorem check_ran {N : Nat} {ps : List (Int × Int)} {os : List Int} (h : ¬ 8000 < (N : Int) + (ps.length : Int)) (hr : rightC N ps os = false) : checkC (N : Int) ps os = 104 := by
  unfold checkC; rw [if_neg (by omega), if_neg (by rw [show ((N : Int)).toNat = N by omega, hr]; simp)]
theorem check_ok {N : Nat} {ps : List (Int × Int)} {os : List Int} (h : ¬ 8000 < (N : Int) + (ps.length : Int)) (hr : rightC N ps os = true) : checkC (N : Int) ps os = 0 := by
  unfold checkC; rw [if_neg (by omega), if_pos (by rw [show ((N : Int)).toNat = N by omega, hr])]
theorem right_noA {N : Nat} {ps : List (Int × Int)} {os : List Int} {k : Nat} (hk : k < ps.length) (h : okP N k (ps.getD k (0, 0)) = false) : rightC N ps os = false := by
  unfold rightC
  have : okA N ps = false := by
    rw [Bool.eq_false_iff]
    intro h'
    have := (okA_iff N ps).1 h' k hk
    rw [h] at this
    cases this
  rw [this]; rfl
theorem right_noO {N : Nat} {ps : List (Int × Int)} {os : List Int} {k : Nat} (hk : k < os.length) (h : okO (N + ps.length) (os.getD k 0) = false) : rightC N ps os = false := by
  unfold rightC
  have : os.all (okO (N + ps.length)) = false := by
    rw [List.all_eq_false]
    exact ⟨os.getD k 0, by simp [List.getD, hk], by rw [h]; simp⟩
  rw [this, Bool.and_false]
theorem right_yes {N : Nat} {ps : List (Int × Int)} {os : List Int} (h1 : ∀ k, k < ps.length → okP N k (ps.getD k (0, 0)) = true) (h2 : ∀ k, k < os.length → okO (N + ps.length) (os.getD k 0) = true) : rightC N ps os = true := by
  unfold rightC
  rw [Bool.and_eq_true]
  refine ⟨(okA_iff N ps).2 h1, ?_⟩
  rw [List.all_eq_true]
  intro o ho
  obtain ⟨j, hj, rfl⟩ := List.getElem_of_mem ho
  have := h2 j hj
  simpa [List.getD, hj] using this

/-- The circuit's own three cells, boxed at b. -/
def CirC (W : World) (b : Nat) (n : Int) (u v : Value) : Prop := W.cell? ⟨b, 0, none⟩ = some (.int .i64 n) ∧ W.cell? ⟨b, 1, none⟩ = some u ∧ W.cell? ⟨b, 2, none⟩ = some v
theorem cirC_box (w W : World) (n : Int) (u v : Value) (hW : Below (w.heap.size + 1) (w.alloc (.cells #[.int .i64 n, u, v] 25)) W) : CirC W w.heap.size n u v ∧ Below w.heap.size w W := by
  refine ⟨⟨?_, ?_, ?_⟩, ((Below.refl _ w).alloc (Nat.le_refl _) _).trans (hW.mono (by omega))⟩
  · rw [hW.cell (p := ⟨w.heap.size, 0, none⟩) (by simp), cell_of_row _ _ 0 _ 25 (0, 0) (heap_alloc_new _ _)]; rfl
  · rw [hW.cell (p := ⟨w.heap.size, 1, none⟩) (by simp), cell_of_row _ _ 1 _ 25 (0, 0) (heap_alloc_new _ _)]; rfl
  · rw [hW.cell (p := ⟨w.heap.size, 2, none⟩) (by simp), cell_of_row _ _ 2 _ 25 (0, 0) (heap_alloc_new _ _)]; rfl

set_option maxRecDepth 8000 in
set_option maxHeartbeats 4000000 in
theorem gcheck_any (A : Nat → Addr) (n : Int) (u v : Value) (ps : List (Int × Int)) (os : List Int) (w : World) (hs : Sents2 w A) (hu : PRow w u ps) (hv : Row w v os) (hn : in64 n) (hpl : ps.length ≤ 8000) (hol : os.length ≤ 1000000)
    (hpb : ∀ x ∈ ps, in64 x.1 ∧ in64 x.2) (hob : ∀ o ∈ os, in64 o) :
    Calls Tryd.prog 27 #[circV n u v] w fun e w' => e = .returned (errC A (checkC n ps os)) ∧ Below w.heap.size w w' := by
  obtain ⟨hn1, hn2⟩ := hn
  obtain ⟨a1, c1, rfl, hu1, hu2, hu3⟩ := hu
  obtain ⟨a2, c2, rfl, hv1, hv2, hv3⟩ := hv
  unfold maxLen at hu2 hv2
  have HU := Lib.hid hu3; clear hu3
  have HV := Lib.hid hv3; clear hv3
  have HBX := Lib.hid (fun W hW => cirC_box w W n (.slice a1 ps.length c1) (.slice a2 os.length c2) hW)
  unfold CirC at HBX
  have HS1 := Lib.hid (fun W (hW : Below w.heap.size w W) => (hs.keep hW).c1)
  have HS3 := Lib.hid (fun W (hW : Below w.heap.size w W) => (hs.keep hW).c3)
  have HPB : Hid (∀ k, k < ps.length → in64 (ps.getD k (0, 0)).1 ∧ in64 (ps.getD k (0, 0)).2) := fun k hk => hpb _ (by simp [List.getD, hk])
  have HOB : Hid (∀ k, k < os.length → in64 (os.getD k 0)) := fun k hk => hob _ (by simp [List.getD, hk])
  have HNA := Lib.hid (fun N k (hk : k < ps.length) (h : okP N k (ps.getD k (0, 0)) = false) => right_noA (os := os) hk h)
  have HNO := Lib.hid (fun N k (hk : k < os.length) (h : okO (N + ps.length) (os.getD k 0) = false) => right_noO (ps := ps) hk h)
  have HYES := Lib.hid (fun N h1 h2 => right_yes (N := N) (ps := ps) (os := os) h1 h2)
  have HLIM := Lib.hid (fun h => check_lim (n := n) (ps := ps) (os := os) h)
  have HRAN := Lib.hid (fun N h hr => check_ran (N := N) (ps := ps) (os := os) h hr)
  have HOK := Lib.hid (fun N h hr => check_ok (N := N) (ps := ps) (os := os) h hr)
  have H0 : Hid (Below (w.heap.size + 1) (w.alloc (.cells #[.int .i64 n, .slice a1 ps.length c1, .slice a2 os.length c2] 25)) (w.alloc (.cells #[.int .i64 n, .slice a1 ps.length c1, .slice a2 os.length c2] 25))) := Below.refl _ _
  clear hs hpb hob
  unfold circV
  generalize hmm : ps.length = m at *
  generalize hll : os.length = l at *
  have HM := Lib.hid hmm; clear hmm
  have HLL := Lib.hid hll; clear hll
  by_cases hneg : n < 0
  · have hE := Lib.hid (HLIM.out (.inl hneg))
    have s1 := HS1.out _ (HBX.out _ H0.out).2
    have HB := Lib.hid (HBX.out _ H0.out).2
    generalize checkC n ps os = cc at *
    go_enter Tryd.func27, Tryd.ntmps27
    go_wp2_with fail
    go_ret
    rw [hE.out]
    exact ⟨rfl, HB.out⟩
  · obtain ⟨N, rfl⟩ := Int.eq_ofNat_of_zero_le (show 0 ≤ n by omega)
    by_cases hbig : 8000 < (N : Int) + (m : Int)
    · have hE := Lib.hid (HLIM.out (.inr hbig))
      have s1 := HS1.out _ (HBX.out _ H0.out).2
      have HB := Lib.hid (HBX.out _ H0.out).2
      have hb2 : 8000 - (m : Int) < (N : Int) := by omega
      have hb3 : decide (8000 - (m : Int) < (N : Int)) = true := decide_eq_true hb2
      generalize checkC (N : Int) ps os = cc at *
      go_enter Tryd.func27, Tryd.ntmps27
      go_wp2_with fail
      go_ret
      rw [hE.out]
      exact ⟨rfl, HB.out⟩
    · have HR := Lib.hid (HRAN.out N hbig)
      have HK := Lib.hid (HOK.out N hbig)
      have hNm : N + m ≤ 8000 := by omega
      have hb3 : decide (8000 - (m : Int) < (N : Int)) = false := decide_eq_false (by omega)
      have HNA' := Lib.hid (HNA.out N)
      have HNO' := Lib.hid (HNO.out N)
      have HY' := Lib.hid (HYES.out N)
      clear HRAN HOK HLIM hbig hneg HNA HNO HYES
      generalize checkC (N : Int) ps os = cc at *
      go_enter Tryd.func27, Tryd.ntmps27
      go_wp2_with fail
      go_loopw [24, 3, 4, 5] (fun i _ _ _ wr => ∃ k : Nat, k ≤ m ∧ i = .int .i64 k ∧ Below (w.heap.size + 1) (w.alloc (.cells #[.int .i64 (N : Int), .slice a1 m c1, .slice a2 l c2] 25)) wr ∧ Hid (∀ j, j < k → okP N j (ps.getD j (0, 0)) = true)) (fun i _ _ _ _ => m - (intOf i).toNat)
      case atStart => exact ⟨0, Nat.zero_le _, rfl, H0.out, fun j hj => absurd hj (Nat.not_lt_zero _)⟩
      case round =>
        obtain ⟨k, hk, rfl, hb, HQ⟩ := hrel
        obtain ⟨⟨z0, z1, z2⟩, hbw⟩ := HBX.out _ hb
        have hbs : w.heap.size + 1 ≤ wr.heap.size := by have := hb.size; simp at this; omega
        by_cases hlt : k < m
        · obtain ⟨b, off, ha, hbl, hc⟩ := HU.out.resolve_left (by omega)
          subst ha
          obtain ⟨x0, x1⟩ := hc k hlt
          have y0 := (hbw.cell (p := ⟨b, off + k * 2, none⟩) hbl).trans x0
          have y1 := (hbw.cell (p := ⟨b, off + k * 2 + 1, none⟩) hbl).trans x1
          obtain ⟨⟨p1, p2⟩, p3, p4⟩ := HPB.out k hlt
          have HNAK := Lib.hid (HNA'.out k hlt)
          have HQN : Hid (okP N k (ps.getD k (0, 0)) = true → ∀ j, j < k + 1 → okP N j (ps.getD j (0, 0)) = true) := fun h j hj => by
            by_cases e : j = k
            · subst e; exact h
            · exact HQ.out j (by omega)
          have HOI : Hid (okP N k (ps.getD k (0, 0)) = true ↔ _) := okP_iff N k (ps.getD k (0, 0))
          clear hc x0 x1
          generalize (ps.getD k (0, 0)) = xy at *
          obtain ⟨x, y⟩ := xy
          simp only at y0 y1 p1 p2 p3 p4 HOI
          have hb2 := hb.alloc hbs (.cells #[.int .i64 x, .int .i64 y] 59)
          obtain ⟨⟨t0, t1, t2⟩, hbw2⟩ := HBX.out _ hb2
          have s3 := HS3.out _ hbw2
          have HB2 := Lib.hid hb2
          have HBW2 := Lib.hid hbw2
          have HI1 := Lib.hid (fun W => gis_any x ((N : Int) + (k : Int)) W p1 p2)
          have HI2 := Lib.hid (fun W => gis_any y ((N : Int) + (k : Int)) W p3 p4)
          clear hb2 hbw2 hb hbw
          by_cases e1 : 0 ≤ x ∧ x / 2 ≤ (N : Int) + (k : Int)
          · have f1 : (decide (0 ≤ x) && decide (x / 2 ≤ (N : Int) + (k : Int))) = true := by simp [e1.1, e1.2]
            rw [f1] at HI1
            by_cases e2 : 0 ≤ y ∧ y / 2 ≤ (N : Int) + (k : Int)
            · have f2 : (decide (0 ≤ y) && decide (y / 2 ≤ (N : Int) + (k : Int))) = true := by simp [e2.1, e2.2]
              rw [f2] at HI2
              by_cases e3 : x < y
              · have hE := Lib.hid (HR.out (HNAK.out (by rw [Bool.eq_false_iff]; intro h; have := HOI.out.1 h; omega)))
                clear e1 e2 f1 f2
                go_wp2_with fail
                refine (HI1.out _).mono ?_
                rintro e w' ⟨rfl, rfl⟩
                go_wp2_with fail
                refine (HI2.out _).mono ?_
                rintro e w' ⟨rfl, rfl⟩
                go_wp2_with fail
                go_ret
                rw [hE.out]
                exact ⟨rfl, HBW2.out⟩
              · have HQ2 := Lib.hid (HQN.out (HOI.out.2 (by omega)))
                clear e1 e2 f1 f2
                go_wp2_with fail
                refine (HI1.out _).mono ?_
                rintro e w' ⟨rfl, rfl⟩
                go_wp2_with fail
                refine (HI2.out _).mono ?_
                rintro e w' ⟨rfl, rfl⟩
                go_wp2_with fail
                go_roundw
                case rel => exact ⟨k + 1, by omega, by go_num, HB2.out, HQ2.out⟩
                case measure => simp [intOf]; omega
            · have f2 : (decide (0 ≤ y) && decide (y / 2 ≤ (N : Int) + (k : Int))) = false := by simp; omega
              rw [f2] at HI2
              have hE := Lib.hid (HR.out (HNAK.out (by rw [Bool.eq_false_iff]; intro h; have := HOI.out.1 h; omega)))
              clear e1 e2 f1 f2
              go_wp2_with fail
              refine (HI1.out _).mono ?_
              rintro e w' ⟨rfl, rfl⟩
              go_wp2_with fail
              refine (HI2.out _).mono ?_
              rintro e w' ⟨rfl, rfl⟩
              go_wp2_with fail
              go_ret
              rw [hE.out]
              exact ⟨rfl, HBW2.out⟩
          · have f1 : (decide (0 ≤ x) && decide (x / 2 ≤ (N : Int) + (k : Int))) = false := by simp; omega
            rw [f1] at HI1
            have hE := Lib.hid (HR.out (HNAK.out (by rw [Bool.eq_false_iff]; intro h; have := HOI.out.1 h; omega)))
            clear e1 f1
            go_wp2_with fail
            refine (HI1.out _).mono ?_
            rintro e w' ⟨rfl, rfl⟩
            go_wp2_with fail
            go_ret
            rw [hE.out]
            exact ⟨rfl, HBW2.out⟩
        · have hkm : k = m := by omega
          have s3 := HS3.out _ hbw
          have HBW := Lib.hid hbw
          clear hlt
          have HQ1 := Lib.hid (show ∀ j, j < m → okP N j (ps.getD j (0, 0)) = true from fun j hj => HQ.out j (by omega))
          clear HQ
          subst hkm
          go_wp2_with fail
          go_loop [57, 7] (fun i _ => ∃ j : Nat, j ≤ l ∧ i = .int .i64 j ∧ Hid (∀ j', j' < j → okO (N + k) (os.getD j' 0) = true)) (fun i _ => l - (intOf i).toNat)
          case atStart => exact ⟨0, Nat.zero_le _, rfl, fun j hj => absurd hj (Nat.not_lt_zero _)⟩
          case round =>
            obtain ⟨j, hj, rfl, HO⟩ := hrel
            by_cases hlt2 : j < l
            · obtain ⟨b, off, ha, hbl, hc⟩ := HV.out.resolve_left (by omega)
              subst ha
              have y0 := (HBW.out.cell (p := ⟨b, off + j, none⟩) hbl).trans (hc j hlt2)
              obtain ⟨p1, p2⟩ := HOB.out j hlt2
              have HNOJ := Lib.hid (HNO'.out j hlt2)
              have HON : Hid (okO (N + k) (os.getD j 0) = true → ∀ j', j' < j + 1 → okO (N + k) (os.getD j' 0) = true) := fun h j' hj' => by
                by_cases e : j' = j
                · subst e; exact h
                · exact HO.out j' (by omega)
              have HOI : Hid (okO (N + k) (os.getD j 0) = true ↔ _) := okO_iff (N + k) (os.getD j 0)
              clear hc
              generalize os.getD j 0 = o at *
              have HI1 := Lib.hid (fun W => gis_any o ((N : Int) + (k : Int)) W p1 p2)
              by_cases e1 : 0 ≤ o ∧ o / 2 ≤ (N : Int) + (k : Int)
              · have f1 : (decide (0 ≤ o) && decide (o / 2 ≤ (N : Int) + (k : Int))) = true := by simp [e1.1, e1.2]
                rw [f1] at HI1
                have HQ2 := Lib.hid (HON.out (HOI.out.2 (by omega)))
                clear e1 f1
                go_wp2_with fail
                refine (HI1.out _).mono ?_
                rintro e w' ⟨rfl, rfl⟩
                go_wp2_with fail
                go_round
                case rel => exact ⟨j + 1, by omega, by go_num, HQ2.out⟩
                case measure => simp [intOf]; omega
              · have f1 : (decide (0 ≤ o) && decide (o / 2 ≤ (N : Int) + (k : Int))) = false := by simp; omega
                rw [f1] at HI1
                have hE := Lib.hid (HR.out (HNOJ.out (by rw [Bool.eq_false_iff]; intro h; have := HOI.out.1 h; omega)))
                clear e1 f1
                go_wp2_with fail
                refine (HI1.out _).mono ?_
                rintro e w' ⟨rfl, rfl⟩
                go_wp2_with fail
                go_ret
                rw [hE.out]
                exact ⟨rfl, HBW.out⟩
            · have hjl : j = l := by omega
              have hE := Lib.hid (HK.out (HY'.out (fun k' hk' => HQ1.out k' hk') (fun k' hk' => HO.out k' (by omega))))
              clear hlt2 HO
              subst hjl
              go_wp2_with fail
              go_ret
              rw [hE.out]
              exact ⟨rfl, HBW.out⟩
end Go.Proofs.YtmgepagdkfghlaaDoor
