/- The contract of the document's Check: what 'checkC' says. Conditions: the circuit reads as pairs and ints of 64 bits, not too many. -/
import Derived.Test.YtdmhjpofinnpmaaDoorGrK
import Derived.Test.YtdmhjpofinnpmaaDoorRgC
namespace Go.Proofs.YtdmhjpofinnpmaaDoor
open Go.RowKit

set_option maxRecDepth 8000 in
set_option maxHeartbeats 4000000 in
theorem rcheck_any (n : Int) (u v : Value) (ps : List (Int × Int)) (os : List Int) (w : World) (hu : PRow w u ps) (hv : Row w v os) (hn : in64 n) (hpl : ps.length ≤ 8000) (hol : os.length ≤ 1000000)
    (hpb : ∀ x ∈ ps, in64 x.1 ∧ in64 x.2) (hob : ∀ o ∈ os, in64 o) :
    Calls Tryd.prog 33 #[circV n u v] w fun e w' => e = .returned (.int .i64 (checkC n ps os)) ∧ Below w.heap.size w w' := by
  obtain ⟨hn1, hn2⟩ := hn
  obtain ⟨a1, c1, rfl, hu1, hu2, hu3⟩ := hu
  obtain ⟨a2, c2, rfl, hv1, hv2, hv3⟩ := hv
  unfold maxLen at hu2 hv2
  have HU := Lib.hid hu3; clear hu3
  have HV := Lib.hid hv3; clear hv3
  have HPB : Hid (∀ k, k < ps.length → in64 (ps.getD k (0, 0)).1 ∧ in64 (ps.getD k (0, 0)).2) := fun k hk => hpb _ (by simp [List.getD, hk])
  have HOB : Hid (∀ k, k < os.length → in64 (os.getD k 0)) := fun k hk => hob _ (by simp [List.getD, hk])
  have HNA := Lib.hid (fun N k (hk : k < ps.length) (h : okP N k (ps.getD k (0, 0)) = false) => right_noA (os := os) hk h)
  have HNO := Lib.hid (fun N k (hk : k < os.length) (h : okO (N + ps.length) (os.getD k 0) = false) => right_noO (ps := ps) hk h)
  have HYES := Lib.hid (fun N h1 h2 => right_yes (N := N) (ps := ps) (os := os) h1 h2)
  have HLIM := Lib.hid (fun h => check_lim (n := n) (ps := ps) (os := os) h)
  have HRAN := Lib.hid (fun N h hr => check_ran (N := N) (ps := ps) (os := os) h hr)
  have HOK := Lib.hid (fun N h hr => check_ok (N := N) (ps := ps) (os := os) h hr)
  have HBW : Hid (Below w.heap.size w (w.alloc (.cells #[.int .i64 n, .slice a1 ps.length c1, .slice a2 os.length c2] 26))) := (Below.refl _ _).alloc (Nat.le_refl _) _
  obtain ⟨⟨t0, t1, t2⟩, _⟩ := cirC_box w _ n (.slice a1 ps.length c1) (.slice a2 os.length c2) (Below.refl _ _)
  have HT := Lib.hid (And.intro t0 (And.intro t1 t2))
  clear hpb hob t0 t1 t2
  unfold circV
  generalize hmm : ps.length = m at *
  generalize hll : os.length = l at *
  have HM := Lib.hid hmm; clear hmm
  have HLL := Lib.hid hll; clear hll
  by_cases hneg : n < 0
  · have hE := Lib.hid (HLIM.out (.inl hneg))
    generalize checkC n ps os = cc at *
    go_enter Tryd.func33, Tryd.ntmps33
    go_wp2_with fail
    go_ret
    rw [hE.out]
    exact ⟨rfl, HBW.out⟩
  · by_cases hb8 : 8000 < n
    · have hE := Lib.hid (HLIM.out (.inr (by omega)))
      generalize checkC n ps os = cc at *
      go_enter Tryd.func33, Tryd.ntmps33
      go_wp2_with fail
      go_ret
      rw [hE.out]
      exact ⟨rfl, HBW.out⟩
    · obtain ⟨N, rfl⟩ := Int.eq_ofNat_of_zero_le (show 0 ≤ n by omega)
      by_cases hbig : 8000 < (N : Int) + (m : Int)
      · have hE := Lib.hid (HLIM.out (.inr hbig))
        generalize checkC (N : Int) ps os = cc at *
        go_enter Tryd.func33, Tryd.ntmps33
        go_wp2_with fail
        go_ret
        rw [hE.out]
        exact ⟨rfl, HBW.out⟩
      · have HR := Lib.hid (HRAN.out N hbig)
        have HK := Lib.hid (HOK.out N hbig)
        have hNm : N + m ≤ 8000 := by omega
        have HNA' := Lib.hid (HNA.out N)
        have HNO' := Lib.hid (HNO.out N)
        have HY' := Lib.hid (HYES.out N)
        have HCEL := Lib.hid (fun b o (hb : b < w.heap.size) => HBW.out.cell (p := ⟨b, o, none⟩) hb)
        clear HRAN HOK HLIM HNA HNO HYES
        generalize checkC (N : Int) ps os = cc at *
        go_enter Tryd.func33, Tryd.ntmps33
        go_wp2_with fail
        obtain ⟨t0, t1, t2⟩ := HT.out
        generalize (w.alloc (.cells #[.int .i64 (N : Int), .slice a1 m c1, .slice a2 l c2] 26)) = w0 at *
        clear HT
        go_loop [3, 4, 5] (fun i _ _ => ∃ k : Nat, k ≤ m ∧ i = .int .i64 k ∧ Hid (∀ j, j < k → okP N j (ps.getD j (0, 0)) = true)) (fun i _ _ => m - (intOf i).toNat)
        case atStart => exact ⟨0, Nat.zero_le _, rfl, fun j hj => absurd hj (Nat.not_lt_zero _)⟩
        case round =>
          obtain ⟨k, hk, rfl, HQ⟩ := hrel
          by_cases hlt : k < m
          · obtain ⟨b, off, ha, hbl, hc⟩ := HU.out.resolve_left (by omega)
            subst ha
            obtain ⟨x0, x1⟩ := hc k hlt
            have y0 := (HCEL.out b (off + k * 2) hbl).trans x0
            have y1 := (HCEL.out b (off + k * 2 + 1) hbl).trans x1
            obtain ⟨⟨p1, p2⟩, p3, p4⟩ := HPB.out k hlt
            have HNAK := Lib.hid (HNA'.out k hlt)
            have HQN : Hid (okP N k (ps.getD k (0, 0)) = true → ∀ j, j < k + 1 → okP N j (ps.getD j (0, 0)) = true) := fun h j hj => by
              by_cases e : j = k
              · subst e; exact h
              · exact HQ.out j (by omega)
            have HOI : Hid (okP N k (ps.getD k (0, 0)) = true ↔ _) := okP_iff N k (ps.getD k (0, 0))
            clear hc x0 x1
            generalize (ps.getD k (0, 0)) = xy at *
            obtain ⟨x, y⟩ := xy
            simp only at y0 y1 p1 p2 p3 p4 HOI
            by_cases hbad : x < 0 ∨ y < 0 ∨ 2 * ((N : Int) + (k : Int) + 1) ≤ x ∨ x < y
            · have hE := Lib.hid (HR.out (HNAK.out (by rw [Bool.eq_false_iff]; intro h; have := HOI.out.1 h; omega)))
              by_cases e1 : x < 0
              · clear hbad
                go_wp2_with fail
                go_ret
                rw [hE.out]
                exact ⟨rfl, HBW.out⟩
              · by_cases e2 : y < 0
                · clear hbad
                  go_wp2_with fail
                  go_ret
                  rw [hE.out]
                  exact ⟨rfl, HBW.out⟩
                · by_cases e3 : 2 * ((N : Int) + (k : Int) + 1) ≤ x
                  · clear hbad
                    go_wp2_with fail
                    go_ret
                    rw [hE.out]
                    exact ⟨rfl, HBW.out⟩
                  · have e4 : x < y := by omega
                    clear hbad
                    go_wp2_with fail
                    go_ret
                    rw [hE.out]
                    exact ⟨rfl, HBW.out⟩
            · have e1 : ¬ x < 0 := fun h => hbad (.inl h)
              have e2 : ¬ y < 0 := fun h => hbad (.inr (.inl h))
              have e3 : ¬ 2 * ((N : Int) + (k : Int) + 1) ≤ x := fun h => hbad (.inr (.inr (.inl h)))
              have e4 : ¬ x < y := fun h => hbad (.inr (.inr (.inr h)))
              have HQ2 := Lib.hid (HQN.out (HOI.out.2 (by omega)))
              clear hbad
              go_wp2_with fail
              go_round
              case rel => exact ⟨k + 1, by omega, by go_num, HQ2.out⟩
              case measure => simp [intOf]; omega
          · have hkm : k = m := by omega
            have HQ1 := Lib.hid (show ∀ j, j < m → okP N j (ps.getD j (0, 0)) = true from fun j hj => HQ.out j (by omega))
            clear hlt HQ
            subst hkm
            go_wp2_with fail
            go_loopw [6] (fun i wr => ∃ j q : Nat, j ≤ l ∧ i = .int .i64 j ∧ wr = w0.drewN q ∧ Hid (∀ j', j' < j → okO (N + k) (os.getD j' 0) = true)) (fun i _ => l - (intOf i).toNat)
            case atStart => exact ⟨0, 0, Nat.zero_le _, rfl, rfl, fun j hj => absurd hj (Nat.not_lt_zero _)⟩
            case round =>
              obtain ⟨j, q, hj, rfl, rfl, HO⟩ := hrel
              by_cases hlt2 : j < l
              · obtain ⟨b, off, ha, hbl, hc⟩ := HV.out.resolve_left (by omega)
                subst ha
                have y0 := (HCEL.out b (off + j) hbl).trans (hc j hlt2)
                obtain ⟨p1, p2⟩ := HOB.out j hlt2
                have HNOJ := Lib.hid (HNO'.out j hlt2)
                have HON : Hid (okO (N + k) (os.getD j 0) = true → ∀ j', j' < j + 1 → okO (N + k) (os.getD j' 0) = true) := fun h j' hj' => by
                  by_cases e : j' = j
                  · subst e; exact h
                  · exact HO.out j' (by omega)
                have HOI : Hid (okO (N + k) (os.getD j 0) = true ↔ _) := okO_iff (N + k) (os.getD j 0)
                clear hc
                generalize os.getD j 0 = o at *
                have q1 : IntKind.i64.wrap ((N : Int) + (k : Int)) = (N : Int) + (k : Int) := IntWalk.i64_in _ (by omega)
                have q2 : IntKind.i64.wrap (2 * ((N : Int) + (k : Int))) = 2 * ((N : Int) + (k : Int)) := IntWalk.i64_in _ (by omega)
                have q3 : IntKind.i64.wrap (2 * ((N : Int) + (k : Int)) + 1) = 2 * ((N : Int) + (k : Int)) + 1 := IntWalk.i64_in _ (by omega)
                by_cases e1 : o < 0
                · have hd : decide (o < 0) = true := decide_eq_true e1
                  have hE := Lib.hid (HR.out (HNOJ.out (by rw [Bool.eq_false_iff]; intro h; have := HOI.out.1 h; omega)))
                  go_wp2_with fail
                  go_quiet (fail)
                  clear q1 q2 q3
                  go_wp2_with fail
                  go_ret
                  rw [hE.out]
                  first | exact ⟨rfl, below_drewN (below_drewN HBW.out _) _⟩ | exact ⟨rfl, below_drewN HBW.out _⟩
                · have hd : decide (o < 0) = false := decide_eq_false e1
                  by_cases e2 : 2 * ((N : Int) + (k : Int)) + 1 < o
                  · have hE := Lib.hid (HR.out (HNOJ.out (by rw [Bool.eq_false_iff]; intro h; have := HOI.out.1 h; omega)))
                    go_wp2_with fail
                    go_quiet (fail)
                    clear q1 q2 q3
                    go_wp2_with fail
                    go_ret
                    rw [hE.out]
                    first | exact ⟨rfl, below_drewN (below_drewN HBW.out _) _⟩ | exact ⟨rfl, below_drewN HBW.out _⟩
                  · have HQ2 := Lib.hid (HON.out (HOI.out.2 (by omega)))
                    go_wp2_with fail
                    go_quiet (fail)
                    clear q1 q2 q3
                    go_wp2_with fail
                    go_roundw
                    case rel => exact ⟨j + 1, _, by omega, by go_num, rfl, HQ2.out⟩
                    case measure => simp [intOf]; omega
              · have hjl : j = l := by omega
                have hE := Lib.hid (HK.out (HY'.out (fun k' hk' => HQ1.out k' hk') (fun k' hk' => HO.out k' (by omega))))
                clear hlt2 HO
                subst hjl
                go_wp2_with fail
                go_ret
                rw [hE.out]
                first | exact ⟨rfl, below_drewN (below_drewN HBW.out _) _⟩ | exact ⟨rfl, below_drewN HBW.out _⟩
end Go.Proofs.YtdmhjpofinnpmaaDoor
