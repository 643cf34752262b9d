/- Contracts of look's Cone, Support and the document's: 'coneL', 'suppL', rows of the call's own. Conditions: the circuit is right, the literal one of it. -/
import Derived.Test.YtdmhjpofinnpmaaDoorLkR
import Derived.Test.YtdmhjpofinnpmaaDoorLkS
namespace Go.Proofs.YtdmhjpofinnpmaaDoor
open Go.RowKit

set_option maxRecDepth 8000 in
set_option maxHeartbeats 4000000 in
theorem lcone_any (A : Nat → Addr) (N : Nat) (u v : Value) (ps : List (Int × Int)) (os : List Int) (l : Int) (L : Nat) (w : World) (hs : Sents2 w A) (hu : PRow w u ps) (hv : Row w v os) (hol : os.length ≤ 1000000) (hob : ∀ o ∈ os, in64 o) (hc : checkC (N : Int) ps os = 0) (h0 : 0 ≤ l) (hL : l / 2 = (L : Int)) (hLN : L ≤ N + ps.length) :
    Calls Tryd.prog 19 #[circV (N : Int) u v, .int .i64 l] w fun e w' => (∃ z, e = .returned z ∧ w'.ownsRow w.heap.size 3 1 z (coneL N ps L).length ((coneL N ps L).map (Value.int .i64))) ∧ Below w.heap.size w w' := by
  obtain ⟨hnm, hokp, hoko⟩ := check_zero8 hc
  have HND := Lib.hid (fun W (hW : Below w.heap.size w W) => needed_any A N u v ps os l L W (hs.keep hW) (hu.keep hW) (hv.keep hW) hol hob hc h0 hL hLN)
  obtain ⟨a1, c1, rfl, hu1, hu2, hu3⟩ := hu
  obtain ⟨a2, c2, rfl, hv1, hv2, hv3⟩ := hv
  have HBX := Lib.hid (fun W hW => cirC_box w W (N : Int) (.slice a1 ps.length c1) (.slice a2 os.length c2) hW)
  unfold CirC at HBX
  have HB0 : Hid ((w.alloc (.cells #[.int .i64 (N : Int), .slice a1 ps.length c1, .slice a2 os.length c2] 26)).heap.size = w.heap.size + 1) := by unfold Hid; simp
  rw [← HB0.out] at HBX
  have HF : Hid (∀ n, (hangsL N ps L).getD n false = hangs N ps L n) := fun n => rfl
  have HSU := Lib.hid (fun k => coneF_succ N (hangs N ps L) k)
  have HSL := Lib.hid (fun k => coneF_len N (hangs N ps L) k)
  have HFIN : Hid (coneF N (hangs N ps L) (L + 1) = coneL N ps L) := rfl
  have HHL := Lib.hid (hangsL_len N ps L)
  clear hc hoko hokp hu3 hv3 hs hob hu1 hu2 hv1 hv2 hol
  unfold circV at *
  generalize coneL N ps L = fin at *
  generalize hangsL N ps L = bs at *
  generalize hangs N ps L = f at *
  generalize ps.length = m at *
  generalize os.length = lo at *
  go_enter Tryd.func19, Tryd.ntmps19
  go_wp2_with fail
  generalize w.alloc (.cells #[.int .i64 (N : Int), .slice a1 m c1, .slice a2 lo c2] 26) = w0 at *
  refine (HND.out _ (HBX.out _ (Below.refl _ _)).2).mono ?_
  rintro e w1 ⟨⟨z, rfl, hz⟩, hb1⟩
  obtain ⟨az, cz, rfl, hz1, hz2, hz3⟩ := hz
  have HB1 := Lib.hid hb1
  have HZ := Lib.hid hz3
  have hbl : bs.length = L + 1 := HHL.out
  unfold maxLen at hz2
  clear hb1 hz3 HHL HND
  generalize hK : bs.length = K at *
  clear hK
  go_wp2_with fail
  go_loopw [12, 5, 6, 7] (fun i o _ _ wr => ∃ k : Nat, k ≤ K ∧ i = .int .i64 (k : Int) ∧ wr.ownsRow w1.heap.size 3 1 o (coneF N f k).length ((coneF N f k).map (Value.int .i64)) ∧ Below w1.heap.size w1 wr) (fun i _ _ _ _ => K - (intOf i).toNat)
  case atStart => exact ⟨0, Nat.zero_le _, rfl, World.ownsRow_nil _ _ _ _, Below.refl _ _⟩
  case round =>
    obtain ⟨k, hk, rfl, hown, hbr⟩ := hrel
    obtain ⟨ao, co, rfl, _, hco⟩ := own_shape hown
    unfold maxLen at hco
    obtain ⟨⟨t0, t1, t2⟩, hbw⟩ := HBX.out _ (HB1.out.trans (hbr.mono HB1.out.size))
    have hsz := hbr.size
    by_cases hlt : k < K
    · obtain ⟨q, off, ha, hql, hcl⟩ := HZ.out.resolve_left (by omega)
      subst ha
      have y0 := (hbr.cell (p := ⟨q, off + k, none⟩) hql).trans (hcl k hlt)
      rw [HF.out] at y0
      have HS := Lib.hid (HSU.out k)
      have hln : (coneF N f k).length < 100000 := by have := HSL.out k; omega
      have HBR := Lib.hid hbr
      have HOWN := Lib.hid hown
      clear hcl hbr hbw
      generalize coneF N f k = cur at *
      cases hf : f k with
      | false =>
        rw [hf] at y0
        have HN : Hid (coneF N f (k + 1) = cur) := by unfold Hid; rw [HS.out, if_neg (by simp [hf]; try omega)]
        clear HS hf
        go_wp2_with fail
        go_roundw
        case rel => exact ⟨k + 1, by omega, by go_num, by rw [HN.out]; exact HOWN.out, HBR.out⟩
        case measure => simp [intOf]; omega
      | true =>
        rw [hf] at y0
        by_cases h1 : N < k
        · have d1 : decide ((N : Int) < (k : Int)) = true := decide_eq_true (by omega)
          have HN : Hid (coneF N f (k + 1) = cur ++ [(k : Int)]) := by unfold Hid; rw [HS.out, if_pos (by simp [hf]; try omega)]
          clear HS hf HOWN
          go_wp2_with (at_builtin; refine wpList_app1 rfl _ _ rfl wr w1.heap.size _ cur.length cur ((k : Int)) hown hsz (by omega) rfl rfl ?_; intro u' w5 hown5 hap5)
          go_roundw
          case rel => exact ⟨k + 1, by omega, by go_num, by rw [HN.out, List.length_append, List.length_singleton]; exact hown5, HBR.out.trans hap5.below⟩
          case measure => simp [intOf]; omega
        · have d1 : decide ((N : Int) < (k : Int)) = false := decide_eq_false (by omega)
          have HN : Hid (coneF N f (k + 1) = cur) := by unfold Hid; rw [HS.out, if_neg (by simp [hf]; try omega)]
          clear HS hf
          go_wp2_with fail
          go_roundw
          case rel => exact ⟨k + 1, by omega, by go_num, by rw [HN.out]; exact HOWN.out, HBR.out⟩
          case measure => simp [intOf]; omega
    · have hkm : K = k := by omega
      subst hkm
      have HE : coneF N f K = fin := by rw [hbl]; exact HFIN.out
      rw [HE] at hown ⊢
      have HO := Lib.hid (own_base hown (show w.heap.size ≤ w1.heap.size by have := HB1.out.size; have := HB0.out; omega))
      have HBW := Lib.hid hbw
      clear hown hbr hbw
      go_wp2_with fail
      go_ret
      exact ⟨⟨_, rfl, HO.out⟩, HBW.out⟩

set_option maxRecDepth 8000 in
set_option maxHeartbeats 4000000 in
theorem lsupp_any (A : Nat → Addr) (N : Nat) (u v : Value) (ps : List (Int × Int)) (os : List Int) (l : Int) (L : Nat) (w : World) (hs : Sents2 w A) (hu : PRow w u ps) (hv : Row w v os) (hol : os.length ≤ 1000000) (hob : ∀ o ∈ os, in64 o) (hc : checkC (N : Int) ps os = 0) (h0 : 0 ≤ l) (hL : l / 2 = (L : Int)) (hLN : L ≤ N + ps.length) :
    Calls Tryd.prog 17 #[circV (N : Int) u v, .int .i64 l] w fun e w' => (∃ z, e = .returned z ∧ w'.ownsRow w.heap.size 3 1 z (suppL N ps L).length ((suppL N ps L).map (Value.int .i64))) ∧ Below w.heap.size w w' := by
  obtain ⟨hnm, hokp, hoko⟩ := check_zero8 hc
  have HND := Lib.hid (fun W (hW : Below w.heap.size w W) => needed_any A N u v ps os l L W (hs.keep hW) (hu.keep hW) (hv.keep hW) hol hob hc h0 hL hLN)
  obtain ⟨a1, c1, rfl, hu1, hu2, hu3⟩ := hu
  obtain ⟨a2, c2, rfl, hv1, hv2, hv3⟩ := hv
  have HBX := Lib.hid (fun W hW => cirC_box w W (N : Int) (.slice a1 ps.length c1) (.slice a2 os.length c2) hW)
  unfold CirC at HBX
  have HB0 : Hid ((w.alloc (.cells #[.int .i64 (N : Int), .slice a1 ps.length c1, .slice a2 os.length c2] 26)).heap.size = w.heap.size + 1) := by unfold Hid; simp
  rw [← HB0.out] at HBX
  have HF : Hid (∀ n, (hangsL N ps L).getD n false = hangs N ps L n) := fun n => rfl
  have HSU := Lib.hid (fun k => suppF_succ N (hangs N ps L) k)
  have HSL := Lib.hid (fun k => suppF_len N (hangs N ps L) k)
  have HFIN : Hid (suppF N (hangs N ps L) (L + 1) = suppL N ps L) := rfl
  have HHL := Lib.hid (hangsL_len N ps L)
  clear hc hoko hokp hu3 hv3 hs hob hu1 hu2 hv1 hv2 hol
  unfold circV at *
  generalize suppL N ps L = fin at *
  generalize hangsL N ps L = bs at *
  generalize hangs N ps L = f at *
  generalize ps.length = m at *
  generalize os.length = lo at *
  go_enter Tryd.func17, Tryd.ntmps17
  go_wp2_with fail
  generalize w.alloc (.cells #[.int .i64 (N : Int), .slice a1 m c1, .slice a2 lo c2] 26) = w0 at *
  refine (HND.out _ (HBX.out _ (Below.refl _ _)).2).mono ?_
  rintro e w1 ⟨⟨z, rfl, hz⟩, hb1⟩
  obtain ⟨az, cz, rfl, hz1, hz2, hz3⟩ := hz
  have HB1 := Lib.hid hb1
  have HZ := Lib.hid hz3
  have hbl : bs.length = L + 1 := HHL.out
  unfold maxLen at hz2
  clear hb1 hz3 HHL HND
  generalize hK : bs.length = K at *
  clear hK
  go_wp2_with fail
  go_loopw [12, 5, 6, 7] (fun i o _ _ wr => ∃ k : Nat, k ≤ K ∧ i = .int .i64 (k : Int) ∧ wr.ownsRow w1.heap.size 3 1 o (suppF N f k).length ((suppF N f k).map (Value.int .i64)) ∧ Below w1.heap.size w1 wr) (fun i _ _ _ _ => K - (intOf i).toNat)
  case atStart => exact ⟨0, Nat.zero_le _, rfl, World.ownsRow_nil _ _ _ _, Below.refl _ _⟩
  case round =>
    obtain ⟨k, hk, rfl, hown, hbr⟩ := hrel
    obtain ⟨ao, co, rfl, _, hco⟩ := own_shape hown
    unfold maxLen at hco
    obtain ⟨⟨t0, t1, t2⟩, hbw⟩ := HBX.out _ (HB1.out.trans (hbr.mono HB1.out.size))
    have hsz := hbr.size
    by_cases hlt : k < K
    · obtain ⟨q, off, ha, hql, hcl⟩ := HZ.out.resolve_left (by omega)
      subst ha
      have y0 := (hbr.cell (p := ⟨q, off + k, none⟩) hql).trans (hcl k hlt)
      rw [HF.out] at y0
      have HS := Lib.hid (HSU.out k)
      have hln : (suppF N f k).length < 100000 := by have := HSL.out k; omega
      have HBR := Lib.hid hbr
      have HOWN := Lib.hid hown
      clear hcl hbr hbw
      generalize suppF N f k = cur at *
      cases hf : f k with
      | false =>
        rw [hf] at y0
        have HN : Hid (suppF N f (k + 1) = cur) := by unfold Hid; rw [HS.out, if_neg (by simp [hf]; try omega)]
        clear HS hf
        go_wp2_with fail
        go_roundw
        case rel => exact ⟨k + 1, by omega, by go_num, by rw [HN.out]; exact HOWN.out, HBR.out⟩
        case measure => simp [intOf]; omega
      | true =>
        rw [hf] at y0
        by_cases h1 : 1 ≤ k
        · have d1 : decide ((1 : Int) ≤ (k : Int)) = true := decide_eq_true (by omega)
          by_cases h2 : k ≤ N
          · have d2 : decide ((k : Int) ≤ (N : Int)) = true := decide_eq_true (by omega)
            have HN : Hid (suppF N f (k + 1) = cur ++ [(k : Int) - 1]) := by unfold Hid; rw [HS.out, if_pos (by simp [hf]; try omega)]
            clear HS hf HOWN
            go_wp2_with (at_builtin; refine wpList_app1 rfl _ _ rfl wr w1.heap.size _ cur.length cur ((k : Int) - 1) hown hsz (by omega) rfl rfl ?_; intro u' w5 hown5 hap5)
            go_roundw
            case rel => exact ⟨k + 1, by omega, by go_num, by rw [HN.out, List.length_append, List.length_singleton]; exact hown5, HBR.out.trans hap5.below⟩
            case measure => simp [intOf]; omega
          · have d2 : decide ((k : Int) ≤ (N : Int)) = false := decide_eq_false (by omega)
            have HN : Hid (suppF N f (k + 1) = cur) := by unfold Hid; rw [HS.out, if_neg (by simp [hf]; try omega)]
            clear HS hf
            go_wp2_with fail
            go_roundw
            case rel => exact ⟨k + 1, by omega, by go_num, by rw [HN.out]; exact HOWN.out, HBR.out⟩
            case measure => simp [intOf]; omega
        · have d1 : decide ((1 : Int) ≤ (k : Int)) = false := decide_eq_false (by omega)
          have HN : Hid (suppF N f (k + 1) = cur) := by unfold Hid; rw [HS.out, if_neg (by simp [hf]; try omega)]
          clear HS hf
          go_wp2_with fail
          go_roundw
          case rel => exact ⟨k + 1, by omega, by go_num, by rw [HN.out]; exact HOWN.out, HBR.out⟩
          case measure => simp [intOf]; omega
    · have hkm : K = k := by omega
      subst hkm
      have HE : suppF N f K = fin := by rw [hbl]; exact HFIN.out
      rw [HE] at hown ⊢
      have HO := Lib.hid (own_base hown (show w.heap.size ≤ w1.heap.size by have := HB1.out.size; have := HB0.out; omega))
      have HBW := Lib.hid hbw
      clear hown hbr hbw
      go_wp2_with fail
      go_ret
      exact ⟨⟨_, rfl, HO.out⟩, HBW.out⟩

end Go.Proofs.YtdmhjpofinnpmaaDoor
