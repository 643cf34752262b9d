/- The contract of the document's Circuit. Conditions: the graph lies in memory as 'RgM' says; the outputs read as ints, not too many. · Contracts of skolemref.SamePairs, SameCircuit at what reads alike: true. Conditions: those typed. · Contracts of the document's Cone, Support: 'coneL', 'suppL', rows of the call's own. Conditions: the circuit is right, the literal one of it. · The contract of the document's Depth: 'depthV'. Conditions: the circuit is right, the rows read as those typed. · The contract of the document's Copy: 'copyV'. Conditions: the circuit is right, the literal one of it; the given literals are the graph's; what is read lies apart from the graph ('hR'). · The law LookSays: true for whatever arguments. Conditions: the slices and the numbers read as 64-bit ints; the two errors lie as 'Sents2' says. -/
import Derived.Test.YtdmhjpofinnpmaaDoorCir
import Derived.Test.YtdmhjpofinnpmaaDoorRead
import Derived.Test.YtdmhjpofinnpmaaDoorLkS
import Derived.Test.YtdmhjpofinnpmaaDoorLkD
import Derived.Test.YtdmhjpofinnpmaaDoorCpAll
import Derived.Test.YtdmhjpofinnpmaaDoorRgA
namespace Go.Proofs.YtdmhjpofinnpmaaDoor
open Go.RowKit

theorem ints2_any (v : Value) (xs : List Int) (w : World) (hv : Row w v xs) (hn : xs.length ≤ 1000000) :
    Calls Tryd.prog 48 #[v] w fun e w' => (∃ u, e = .returned u ∧ w'.ownsRow w.heap.size 3 1 u xs.length (xs.map (Value.int .i64))) ∧ Below w.heap.size w w' :=
  (ints_any v xs w hv (by omega)).mono fun e w' ⟨u, h1, h2, h3⟩ => ⟨⟨u, h1, h2⟩, h3⟩

set_option maxRecDepth 8000 in
set_option maxHeartbeats 4000000 in
theorem rcirc_any {v : Value} {S : List Nat} {g : Gr} (w : World) (h : RgM w v S g) (o : Value) (os : List Int) (ho : Row w o os) (hn : os.length ≤ 1000000) :
    Calls Tryd.prog 29 #[v, o] w (CirPost w (g.n : Int) g.ands os) := by
  obtain ⟨p, u, h⟩ := h
  obtain rfl := h.val
  have hga : g.ands.length ≤ 8000 := by have := h.len; unfold Gr.len at this; omega
  have HPR := Lib.hid (own_prow h.row)
  obtain ⟨ao, co, rfl, _, _⟩ := row_shape h.row
  have hpl : p < w.heap.size := h.lt p (by rw [h.foot]; simp)
  have c0 := h.c0
  have c1 := h.c1
  have HP : Hid (∀ W, Below w.heap.size w W → W.cell? ⟨p, 0, none⟩ = some (.int .i64 (g.n : Int)) ∧ W.cell? ⟨p, 1, none⟩ = some (.slice ao g.ands.length co)) := fun W hW => ⟨(hW.cell (p := ⟨p, 0, none⟩) hpl).trans c0, (hW.cell (p := ⟨p, 1, none⟩) hpl).trans c1⟩
  have HC1 := Lib.hid (fun W (hW : Below w.heap.size w W) => pairs_any _ g.ands W (HPR.out.keep hW) (by omega))
  have HC2 := Lib.hid (fun W (hW : Below w.heap.size w W) => ints2_any o os W (ho.keep hW) hn)
  obtain ⟨a0, n0, k0, rfl⟩ : ∃ a n c, o = .slice a n c := by obtain ⟨a, c, rfl, _⟩ := ho; exact ⟨_, _, _, rfl⟩
  have HV : Hid (∀ W, Below (w.heap.size + 1) (w.alloc (.cells #[.int .i64 0, .slice none 0 0, .slice none 0 0] 26)) W → Below w.heap.size w W) := fun W hW => ((Below.refl _ w).alloc (Nat.le_refl _) _).trans (hW.mono (by omega))
  have HZ : Hid (∀ W, Below (w.heap.size + 1) (w.alloc (.cells #[.int .i64 0, .slice none 0 0, .slice none 0 0] 26)) W → (W.cell? ⟨w.heap.size, 0, none⟩ = some (.int .i64 0) ∧ W.cell? ⟨w.heap.size, 1, none⟩ = some (.slice none 0 0) ∧ W.cell? ⟨w.heap.size, 2, none⟩ = some (.slice none 0 0)) ∧ (∀ k, W.frozen? ⟨w.heap.size, k, none⟩ = false) ∧ w.heap.size < W.heap.size) := fun W hW => by
    refine ⟨⟨?_, ?_, ?_⟩, fun k => ?_, by have := hW.size; simp at this; omega⟩
    · rw [hW.cell (p := ⟨w.heap.size, 0, none⟩) (by simp), cell_of_row _ _ 0 _ 26 (0, 0) (heap_alloc_new _ _)]; rfl
    · rw [hW.cell (p := ⟨w.heap.size, 1, none⟩) (by simp), cell_of_row _ _ 1 _ 26 (0, 0) (heap_alloc_new _ _)]; rfl
    · rw [hW.cell (p := ⟨w.heap.size, 2, none⟩) (by simp), cell_of_row _ _ 2 _ 26 (0, 0) (heap_alloc_new _ _)]; rfl
    · rw [hW.frozen (p := ⟨w.heap.size, k, none⟩) (by simp)]
      have := heap_alloc_new w (.cells #[.int .i64 0, .slice none 0 0, .slice none 0 0] 26)
      simp only [World.frozen?, this]
      simp
  clear h ho hn hga c0 c1 hpl
  have HGA := Lib.hid (show g.ands.length = g.ands.length from rfl)
  go_enter Tryd.func29, Tryd.ntmps29
  go_wp2_with fail
  have hV0 : Below (w.heap.size + 1) (w.alloc (.cells #[.int .i64 0, .slice none 0 0, .slice none 0 0] 26)) (w.alloc (.cells #[.int .i64 0, .slice none 0 0, .slice none 0 0] 26)).drew := (Below.refl _ _).drew
  have HS0 : Hid (w.heap.size + 1 ≤ (w.alloc (.cells #[.int .i64 0, .slice none 0 0, .slice none 0 0] 26)).drew.heap.size) := by unfold Hid; simp
  go_region_held3 (fun W => W.cell? ⟨p, 0, none⟩ = some (.int .i64 (g.n : Int)) ∧ W.cell? ⟨p, 1, none⟩ = some (.slice ao g.ands.length co)) (first | exact HP.out _ (HV.out _ hV0) | exact HP.out _ (HV.out _ hVA) | exact HP.out _ (HV.out _ hVB) | exact HP.out _ ((((HV.out _ hVB).setCell (by simp) _).setCell (by simp) _).setCell (by simp) _) | exact HP.out _ ((((HV.out _ hVA).setCell (by simp) _).setCell (by simp) _).setCell (by simp) _)) (first
    | (go_at_call 30; refine (HC1.out _ (by first | exact HV.out _ hV0 | exact HV.out _ hVB)).mono ?_; rintro e wA ⟨⟨uA, rfl, hPA⟩, hbA⟩; have HPA := Lib.hid (own_base hPA (show w.heap.size + 1 ≤ _ by first | exact HS0.out | exact zBs)); have HBA := Lib.hid hbA; have hVA : Below (w.heap.size + 1) (w.alloc (.cells #[.int .i64 0, .slice none 0 0, .slice none 0 0] 26)) wA := Below.trans (by first | exact hV0 | exact hVB) (hbA.mono (by first | exact HS0.out | exact zBs)); obtain ⟨⟨zA0, zA1, zA2⟩, zAf, zAs⟩ := HZ.out _ hVA; obtain ⟨aA, cA, rfl, _⟩ := row_shape hPA; clear hPA hbA)
    | (go_at_call 48; refine (HC2.out _ (by first | exact HV.out _ hV0 | exact HV.out _ hVA)).mono ?_; rintro e wB ⟨⟨uB, rfl, hPB⟩, hbB⟩; have HPB := Lib.hid (own_base hPB (show w.heap.size + 1 ≤ _ by first | exact HS0.out | exact zAs)); have HBB := Lib.hid hbB; have hVB : Below (w.heap.size + 1) (w.alloc (.cells #[.int .i64 0, .slice none 0 0, .slice none 0 0] 26)) wB := Below.trans (by first | exact hV0 | exact hVA) (hbB.mono (by first | exact HS0.out | exact zAs)); obtain ⟨⟨zB0, zB1, zB2⟩, zBf, zBs⟩ := HZ.out _ hVB; obtain ⟨aB, cB, rfl, _⟩ := row_shape hPB; clear hPB hbB))
  all_goals
    go_wp2_with fail
    have hA := by first | exact own_keep HPA.out HBB.out | exact HPA.out
    have hB := by first | exact own_keep HPB.out HBA.out | exact HPB.out
    exact bodyPost_ret (v := circV (g.n : Int) (.slice aA g.ands.length cA) (.slice aB os.length cB)) (by first | (simp [results, Tryd.results29, go_sem, circV, zB0, zB1, zB2]; done) | (simp [results, Tryd.results29, go_sem, circV, zA0, zA1, zA2]; done)) rfl ⟨⟨_, _, rfl, cir_set hA _ _ _, cir_set hB _ _ _⟩, (((by first | exact HV.out _ hVB | exact HV.out _ hVA : Below w.heap.size w _).setCell (by simp) _).setCell (by simp) _).setCell (by simp) _⟩
end Go.Proofs.YtdmhjpofinnpmaaDoor

namespace Go.Proofs.YtdmhjpofinnpmaaDoor
open Go.RowKit

set_option maxRecDepth 8000 in
set_option maxHeartbeats 2000000 in
theorem samePairs_yes (v u : Value) (ps : List (Int × Int)) (w : World) (hv : PRow w v ps) (hu : PRow w u ps) :
    Calls Tryd.prog 45 #[v, u] w fun e w' => e = .returned (.bool true) ∧ Below w.heap.size w w' := by
  obtain ⟨a, c, rfl, hxc, hcm, hx⟩ := hv
  obtain ⟨a', c', rfl, hyc, hcm', hy⟩ := hu
  unfold maxLen at hcm hcm'
  have HX := Lib.hid hx; clear hx
  have HY := Lib.hid hy; clear hy
  have hne : ((ps.length : Int) != (ps.length : Int)) = false := by simp
  generalize hn : ps.length = n at *
  have HN := Lib.hid hn; clear hn
  go_enter Tryd.func45, Tryd.ntmps45
  go_wp2_with fail
  go_loopw [5, 6] (fun i _ wr => ∃ k q : Nat, k ≤ n ∧ i = .int .i64 k ∧ wr = w.drewN q) (fun i _ _ => n - (intOf i).toNat)
  case atStart => exact ⟨0, 0, Nat.zero_le _, rfl, rfl⟩
  case round =>
    obtain ⟨k, q, hk, rfl, rfl⟩ := hrel
    by_cases hlt : k < n
    · obtain ⟨b, off, ha, hb, hx⟩ := HX.out.resolve_left (by omega)
      obtain ⟨b', off', ha', hb', hy⟩ := HY.out.resolve_left (by omega)
      subst ha; subst ha'
      obtain ⟨x0, x1⟩ := hx k hlt
      obtain ⟨y0, y1⟩ := hy k hlt
      clear hx hy
      generalize (ps.getD k (0, 0)).1 = p0 at *
      generalize (ps.getD k (0, 0)).2 = p1 at *
      go_wp2_with fail
      go_quiet (fail)
      go_wp2_with fail
      go_roundw
      case rel => exact ⟨k + 1, _, by omega, by go_num, rfl⟩
      case measure => simp [intOf]; omega
    · have hkn : k = n := by omega
      subst hkn
      go_wp2_with fail
      go_ret
      exact ⟨rfl, below_drewN (Below.refl _ _) _⟩

set_option maxRecDepth 8000 in
set_option maxHeartbeats 2000000 in
theorem sameCir_yes (n : Int) (u v u' v' : Value) (ps : List (Int × Int)) (os : List Int) (w : World) (h1 : PRow w u ps) (h2 : Row w v os) (h3 : PRow w u' ps) (h4 : Row w v' os) :
    Calls Tryd.prog 27 #[circV n u v, circV n u' v'] w fun e w' => e = .returned (.bool true) ∧ Below w.heap.size w w' := by
  have HP := Lib.hid (fun W (hW : Below w.heap.size w W) => samePairs_yes u u' ps W (h1.keep hW) (h3.keep hW))
  have HI := Lib.hid (fun W (hW : Below w.heap.size w W) => sameInts_yes v v' os os W (h2.keep hW) (h4.keep hW) rfl)
  obtain ⟨a1, c1, rfl, _⟩ := h1
  obtain ⟨a2, c2, rfl, _⟩ := h2
  obtain ⟨a3, c3, rfl, _⟩ := h3
  obtain ⟨a4, c4, rfl, _⟩ := h4
  unfold circV
  generalize ps.length = n1 at *
  generalize os.length = n2 at *
  have HA : Hid (Below w.heap.size w ((w.alloc (.cells #[.int .i64 n, .slice a1 n1 c1, .slice a2 n2 c2] 26)).alloc (.cells #[.int .i64 n, .slice a3 n1 c3, .slice a4 n2 c4] 26))) := ((Below.refl _ w).alloc (Nat.le_refl _) _).alloc (by simp) _
  have hnn : (n == n) = true := by simp
  have HZ : Hid (∀ W, Below (w.heap.size + 2) ((w.alloc (.cells #[.int .i64 n, .slice a1 n1 c1, .slice a2 n2 c2] 26)).alloc (.cells #[.int .i64 n, .slice a3 n1 c3, .slice a4 n2 c4] 26)) W → W.cell? ⟨w.heap.size, 2, none⟩ = some (.slice a2 n2 c2) ∧ W.cell? ⟨w.heap.size + 1, 2, none⟩ = some (.slice a4 n2 c4)) := fun W hW => by
    have hz : (w.alloc (.cells #[.int .i64 n, .slice a1 n1 c1, .slice a2 n2 c2] 26)).heap.size = w.heap.size + 1 := by simp
    have hb : Below (w.heap.size + 1) (w.alloc (.cells #[.int .i64 n, .slice a1 n1 c1, .slice a2 n2 c2] 26)) ((w.alloc (.cells #[.int .i64 n, .slice a1 n1 c1, .slice a2 n2 c2] 26)).alloc (.cells #[.int .i64 n, .slice a3 n1 c3, .slice a4 n2 c4] 26)) := (Below.refl _ _).alloc (by simp) _
    refine ⟨?_, ?_⟩
    · rw [hW.cell (p := ⟨w.heap.size, 2, none⟩) (by simp), hb.cell (p := ⟨w.heap.size, 2, none⟩) (by simp), cell_of_row _ _ 2 _ 26 (0, 0) (heap_alloc_new _ _)]; rfl
    · rw [hW.cell (p := ⟨w.heap.size + 1, 2, none⟩) (by simp), ← hz, cell_of_row _ _ 2 _ 26 (0, 0) (heap_alloc_new _ _)]; rfl
  go_enter Tryd.func27, Tryd.ntmps27
  go_wp2_with fail
  refine (HP.out _ HA.out).mono ?_
  rintro e w1 ⟨rfl, hb1⟩
  have HB1 := Lib.hid (HA.out.trans (hb1.mono HA.out.size))
  obtain ⟨z1, z2⟩ := HZ.out w1 (hb1.mono (by simp))
  clear hb1
  go_wp2_with fail
  refine (HI.out _ HB1.out).mono ?_
  rintro e w2 ⟨rfl, hb2⟩
  go_wp2_with fail
  go_ret
  exact ⟨rfl, HB1.out.trans (hb2.mono HB1.out.size)⟩

end Go.Proofs.YtdmhjpofinnpmaaDoor

namespace Go.Proofs.YtdmhjpofinnpmaaDoor
open Go.RowKit

set_option maxRecDepth 8000 in
set_option maxHeartbeats 4000000 in
theorem rcone_any (N : Nat) (u v : Value) (ps : List (Int × Int)) (os : List Int) (l : Int) (L : Nat) (w : World) (hu : PRow w u ps) (hv : Row w v os) (hc : checkC (N : Int) ps os = 0) (h0 : 0 ≤ l) (hL : l / 2 = (L : Int)) (hLN : L ≤ N + ps.length) :
    Calls Tryd.prog 20 #[circV (N : Int) u v, .int .i64 l] w fun e w' => (∃ z, e = .returned z ∧ w'.ownsRow w.heap.size 3 1 z (coneL N ps L).length ((coneL N ps L).map (Value.int .i64))) ∧ Below w.heap.size w w' := by
  obtain ⟨hnm, hokp, hoko⟩ := check_zero8 hc
  have HND := Lib.hid (fun W (hW : Below w.heap.size w W) => reach_any N u v ps os l L W (hu.keep hW) (hv.keep hW) hc h0 hL hLN)
  have HF : Hid (∀ n, (reachL N ps L).getD n false = hangs N ps L n) := fun n => reachL_get hc hLN n
  obtain ⟨a1, c1, rfl, hu1, hu2, hu3⟩ := hu
  obtain ⟨a2, c2, rfl, hv1, hv2, hv3⟩ := hv
  have HBX := Lib.hid (fun W hW => cirC_box w W (N : Int) (.slice a1 ps.length c1) (.slice a2 os.length c2) hW)
  unfold CirC at HBX
  have HB0 : Hid ((w.alloc (.cells #[.int .i64 (N : Int), .slice a1 ps.length c1, .slice a2 os.length c2] 26)).heap.size = w.heap.size + 1) := by unfold Hid; simp
  rw [← HB0.out] at HBX
  have HSU := Lib.hid (fun k => coneF_succ N (hangs N ps L) k)
  have HSL := Lib.hid (fun k => coneF_len N (hangs N ps L) k)
  have HLOW : Hid (coneF N (hangs N ps L) (N + 1) = []) := coneF_low N _ (N + 1) (Nat.le_refl _)
  have HFIN : Hid (coneF N (hangs N ps L) (N + ps.length + 1) = coneL N ps L) := coneL_all hLN
  have HHL := Lib.hid (reachL_len N ps L)
  clear hc hoko hokp hu3 hv3 hu1 hu2 hv1 hv2
  unfold circV at *
  generalize coneL N ps L = fin at *
  generalize reachL N ps L = bs at *
  generalize hangs N ps L = f at *
  generalize ps.length = m at *
  generalize os.length = lo at *
  go_enter Tryd.func20, Tryd.ntmps20
  go_wp2_with fail
  generalize w.alloc (.cells #[.int .i64 (N : Int), .slice a1 m c1, .slice a2 lo c2] 26) = w0 at *
  refine (HND.out _ (HBX.out _ (Below.refl _ _)).2).mono ?_
  rintro e w1 ⟨⟨z, rfl, hz⟩, hb1⟩
  obtain ⟨az, cz, rfl, hz1, hz2, hz3⟩ := hz
  have HB1 := Lib.hid hb1
  have HZ := Lib.hid hz3
  have hbl : bs.length = N + m + 1 := HHL.out
  unfold maxLen at hz2
  obtain ⟨⟨k0, k1, k2⟩, hbw1⟩ := HBX.out _ hb1
  clear hb1 hz3 HHL HND hbw1
  generalize hK : bs.length = K at *
  clear hK
  have HBL := Lib.hid hbl
  clear hbl
  go_wp2_with fail
  clear k0 k1 k2
  go_loopw [7, 6] (fun i o wr => ∃ k : Nat, (N + 1) ≤ k ∧ k ≤ K ∧ i = .int .i64 (k : Int) ∧ wr.ownsRow w1.heap.size 3 1 o (coneF N f k).length ((coneF N f k).map (Value.int .i64)) ∧ Below w1.heap.size w1 wr) (fun i _ _ => K - (intOf i).toNat)
  case atStart => exact ⟨(N + 1), Nat.le_refl _, by have := HBL.out; omega, rfl, by rw [HLOW.out]; exact World.ownsRow_nil _ _ _ _, Below.refl _ _⟩
  case round =>
    obtain ⟨k, hk1, hk, rfl, hown, hbr⟩ := hrel
    obtain ⟨ao, co, rfl, _, hco⟩ := own_shape hown
    unfold maxLen at hco
    obtain ⟨⟨t0, t1, t2⟩, hbw⟩ := HBX.out _ (HB1.out.trans (hbr.mono HB1.out.size))
    have hsz := hbr.size
    by_cases hlt : k < K
    · have hkK : k < K := by have := HBL.out; omega
      obtain ⟨q, off, ha, hql, hcl⟩ := HZ.out.resolve_left (by omega)
      subst ha
      have y0 := (hbr.cell (p := ⟨q, off + k, none⟩) hql).trans (hcl k hkK)
      rw [HF.out] at y0
      have HS := Lib.hid (HSU.out k)
      have hln : (coneF N f k).length < 100000 := by have := HSL.out k; have := HBL.out; omega
      have HBR := Lib.hid hbr
      have HOWN := Lib.hid hown
      have d1 : decide ((k : Int) < (K : Int)) = true := decide_eq_true (by omega)
      clear hcl hbr hbw
      generalize coneF N f k = cur at *
      cases hf : f k with
      | false =>
        rw [hf] at y0
        have HN : Hid (coneF N f (k + 1) = cur) := by unfold Hid; rw [HS.out, if_neg (by simp [hf])]
        clear HS hf
        go_wp2_with fail
        go_roundw
        case rel => exact ⟨k + 1, by omega, by omega, by go_num, by rw [HN.out]; exact HOWN.out, HBR.out⟩
        case measure => simp [intOf]; omega
      | true =>
        rw [hf] at y0
        have HN : Hid (coneF N f (k + 1) = cur ++ [(k : Int)]) := by unfold Hid; rw [HS.out, if_pos (by simp [hf]; omega)]
        clear HS hf HOWN
        go_wp2_with (at_builtin; refine wpList_app1 rfl _ _ rfl wr w1.heap.size _ cur.length cur ((k : Int)) hown hsz (by omega) rfl rfl ?_; intro u' w5 hown5 hap5)
        go_roundw
        case rel => exact ⟨k + 1, by omega, by omega, by go_num, by rw [HN.out, List.length_append, List.length_singleton]; exact hown5, HBR.out.trans hap5.below⟩
        case measure => simp [intOf]; omega
    · have HE : coneF N f k = fin := by rw [show k = N + m + 1 by have := HBL.out; omega]; exact HFIN.out
      rw [HE] at hown ⊢
      have d1 : decide ((k : Int) < (K : Int)) = false := decide_eq_false (by omega)
      have HO := Lib.hid (own_base hown (show w.heap.size ≤ w1.heap.size by have := HB1.out.size; have := HB0.out; omega))
      have HBW := Lib.hid hbw
      clear hown hbr hbw
      go_wp2_with fail
      go_ret
      exact ⟨⟨_, rfl, HO.out⟩, HBW.out⟩

set_option maxRecDepth 8000 in
set_option maxHeartbeats 4000000 in
theorem rsupp_any (N : Nat) (u v : Value) (ps : List (Int × Int)) (os : List Int) (l : Int) (L : Nat) (w : World) (hu : PRow w u ps) (hv : Row w v os) (hc : checkC (N : Int) ps os = 0) (h0 : 0 ≤ l) (hL : l / 2 = (L : Int)) (hLN : L ≤ N + ps.length) :
    Calls Tryd.prog 18 #[circV (N : Int) u v, .int .i64 l] w fun e w' => (∃ z, e = .returned z ∧ w'.ownsRow w.heap.size 3 1 z (suppL N ps L).length ((suppL N ps L).map (Value.int .i64))) ∧ Below w.heap.size w w' := by
  obtain ⟨hnm, hokp, hoko⟩ := check_zero8 hc
  have HND := Lib.hid (fun W (hW : Below w.heap.size w W) => reach_any N u v ps os l L W (hu.keep hW) (hv.keep hW) hc h0 hL hLN)
  have HF : Hid (∀ n, (reachL N ps L).getD n false = hangs N ps L n) := fun n => reachL_get hc hLN n
  obtain ⟨a1, c1, rfl, hu1, hu2, hu3⟩ := hu
  obtain ⟨a2, c2, rfl, hv1, hv2, hv3⟩ := hv
  have HBX := Lib.hid (fun W hW => cirC_box w W (N : Int) (.slice a1 ps.length c1) (.slice a2 os.length c2) hW)
  unfold CirC at HBX
  have HB0 : Hid ((w.alloc (.cells #[.int .i64 (N : Int), .slice a1 ps.length c1, .slice a2 os.length c2] 26)).heap.size = w.heap.size + 1) := by unfold Hid; simp
  rw [← HB0.out] at HBX
  have HSU := Lib.hid (fun k => suppF_succ N (hangs N ps L) k)
  have HSL := Lib.hid (fun k => suppF_len N (hangs N ps L) k)
  have HLOW : Hid (suppF N (hangs N ps L) 1 = []) := suppF_low N _
  have HFIN : Hid (suppF N (hangs N ps L) (N + 1) = suppL N ps L) := suppL_all
  have HHL := Lib.hid (reachL_len N ps L)
  clear hc hoko hokp hu3 hv3 hu1 hu2 hv1 hv2
  unfold circV at *
  generalize suppL N ps L = fin at *
  generalize reachL N ps L = bs at *
  generalize hangs N ps L = f at *
  generalize ps.length = m at *
  generalize os.length = lo at *
  go_enter Tryd.func18, Tryd.ntmps18
  go_wp2_with fail
  generalize w.alloc (.cells #[.int .i64 (N : Int), .slice a1 m c1, .slice a2 lo c2] 26) = w0 at *
  refine (HND.out _ (HBX.out _ (Below.refl _ _)).2).mono ?_
  rintro e w1 ⟨⟨z, rfl, hz⟩, hb1⟩
  obtain ⟨az, cz, rfl, hz1, hz2, hz3⟩ := hz
  have HB1 := Lib.hid hb1
  have HZ := Lib.hid hz3
  have hbl : bs.length = N + m + 1 := HHL.out
  unfold maxLen at hz2
  obtain ⟨⟨k0, k1, k2⟩, hbw1⟩ := HBX.out _ hb1
  clear hb1 hz3 HHL HND hbw1
  generalize hK : bs.length = K at *
  clear hK
  have HBL := Lib.hid hbl
  clear hbl
  go_wp2_with fail
  clear k0 k1 k2
  go_loopw [7, 6] (fun i o wr => ∃ k : Nat, 1 ≤ k ∧ k ≤ (N + 1) ∧ i = .int .i64 (k : Int) ∧ wr.ownsRow w1.heap.size 3 1 o (suppF N f k).length ((suppF N f k).map (Value.int .i64)) ∧ Below w1.heap.size w1 wr) (fun i _ _ => K - (intOf i).toNat)
  case atStart => exact ⟨1, Nat.le_refl _, by have := HBL.out; omega, rfl, by rw [HLOW.out]; exact World.ownsRow_nil _ _ _ _, Below.refl _ _⟩
  case round =>
    obtain ⟨k, hk1, hk, rfl, hown, hbr⟩ := hrel
    obtain ⟨ao, co, rfl, _, hco⟩ := own_shape hown
    unfold maxLen at hco
    obtain ⟨⟨t0, t1, t2⟩, hbw⟩ := HBX.out _ (HB1.out.trans (hbr.mono HB1.out.size))
    have hsz := hbr.size
    by_cases hlt : k < (N + 1)
    · have hkK : k < K := by have := HBL.out; omega
      obtain ⟨q, off, ha, hql, hcl⟩ := HZ.out.resolve_left (by omega)
      subst ha
      have y0 := (hbr.cell (p := ⟨q, off + k, none⟩) hql).trans (hcl k hkK)
      rw [HF.out] at y0
      have HS := Lib.hid (HSU.out k)
      have hln : (suppF N f k).length < 100000 := by have := HSL.out k; have := HBL.out; omega
      have HBR := Lib.hid hbr
      have HOWN := Lib.hid hown
      have d1 : decide ((k : Int) ≤ (N : Int)) = true := decide_eq_true (by omega)
      clear hcl hbr hbw
      generalize suppF N f k = cur at *
      cases hf : f k with
      | false =>
        rw [hf] at y0
        have HN : Hid (suppF N f (k + 1) = cur) := by unfold Hid; rw [HS.out, if_neg (by simp [hf])]
        clear HS hf
        go_wp2_with fail
        go_roundw
        case rel => exact ⟨k + 1, by omega, by omega, by go_num, by rw [HN.out]; exact HOWN.out, HBR.out⟩
        case measure => simp [intOf]; omega
      | true =>
        rw [hf] at y0
        have HN : Hid (suppF N f (k + 1) = cur ++ [(k : Int) - 1]) := by unfold Hid; rw [HS.out, if_pos (by simp [hf]; omega)]
        clear HS hf HOWN
        go_wp2_with (at_builtin; refine wpList_app1 rfl _ _ rfl wr w1.heap.size _ cur.length cur ((k : Int) - 1) hown hsz (by omega) rfl rfl ?_; intro u' w5 hown5 hap5)
        go_roundw
        case rel => exact ⟨k + 1, by omega, by omega, by go_num, by rw [HN.out, List.length_append, List.length_singleton]; exact hown5, HBR.out.trans hap5.below⟩
        case measure => simp [intOf]; omega
    · have HE : suppF N f k = fin := by rw [show k = N + 1 by have := HBL.out; omega]; exact HFIN.out
      rw [HE] at hown ⊢
      have d1 : decide ((k : Int) ≤ (N : Int)) = false := decide_eq_false (by omega)
      have HO := Lib.hid (own_base hown (show w.heap.size ≤ w1.heap.size by have := HB1.out.size; have := HB0.out; omega))
      have HBW := Lib.hid hbw
      clear hown hbr hbw
      go_wp2_with fail
      go_ret
      exact ⟨⟨_, rfl, HO.out⟩, HBW.out⟩

end Go.Proofs.YtdmhjpofinnpmaaDoor

namespace Go.Proofs.YtdmhjpofinnpmaaDoor
open Go.RowKit

/-- The two loads of depths: their block turns within their region. -/
def ldRa : Op := Op.load 3 (Operand.tmp 27)
def ldRb : Op := Op.load 3 (Operand.tmp 37)
theorem ldRa_eq : ldRa = Op.load 3 (Operand.tmp 27) := rfl
theorem ldRb_eq : ldRb = Op.load 3 (Operand.tmp 37) := rfl

set_option maxRecDepth 8000 in
set_option maxHeartbeats 4000000 in
theorem rdepth_any (N : Nat) (u v : Value) (ps : List (Int × Int)) (os : List Int) (w : World) (hu : PRow w u ps) (hv : Row w v os) (hol : os.length ≤ 1000000) (hc : checkC (N : Int) ps os = 0) :
    Calls Tryd.prog 22 #[circV (N : Int) u v] w fun e w' => e = .returned (.int .i64 (depthV N ps os)) ∧ Below w.heap.size w w' := by
  obtain ⟨hnm, hokp, hoko⟩ := check_zero8 hc
  obtain ⟨a1, c1, rfl, hu1, hu2, hu3⟩ := hu
  obtain ⟨a2, c2, rfl, hv1, hv2, hv3⟩ := hv
  unfold maxLen at hu2 hv2
  have HU := Lib.hid hu3
  have HV := Lib.hid hv3
  have HBX := Lib.hid (fun W hW => cirC_box w W (N : Int) (.slice a1 ps.length c1) (.slice a2 os.length c2) hW)
  unfold CirC at HBX
  have HB0 : Hid ((w.alloc (.cells #[.int .i64 (N : Int), .slice a1 ps.length c1, .slice a2 os.length c2] 26)).heap.size = w.heap.size + 1) := by unfold Hid; simp
  rw [← HB0.out] at HBX
  have HOKP := Lib.hid hokp
  have HOKO := Lib.hid hoko
  have HTK := Lib.hid (fun k (hk : k < ps.length) => depthsV_take N ps k hk)
  have HDI := Lib.hid (fun k (hk : k ≤ ps.length) => DepI.at N ps k hk)
  have HTE : Hid (ps.take ps.length = ps) := List.take_length
  have HTO := Lib.hid (fun d k (hk : k < os.length) => depthO_take d os k hk)
  have HTE2 : Hid (os.take os.length = os) := List.take_length
  have HDV : Hid (depthV N ps os = depthO (depthsV N ps) os) := rfl
  clear hc hokp hoko hu1 hv1 hu3 hv3
  unfold circV at *
  generalize depthV N ps os = fin at *
  generalize ps.length = m at *
  generalize os.length = lo at *
  have HZ := Lib.hid (fun w2 (hb2 : Below (w.alloc (.cells #[.int .i64 (N : Int), .slice a1 m c1, .slice a2 lo c2] 26)).heap.size (w.alloc (.cells #[.int .i64 (N : Int), .slice a1 m c1, .slice a2 lo c2] 26)) w2) => HBX.out w2 hb2)
  go_enter Tryd.func22, Tryd.ntmps22
  go_wp2_with (at_make; refine wpList_makeH (Value.int .i64) 0 22 3 8 Tryd.underlying22 infoInt rfl (by decide) rfl _ _ rfl _ (N + 1) rfl rfl (by omega) ?_; intro w2 hh hb2 hsz2; obtain ⟨⟨t0, t1, t2⟩, hbw2⟩ := HZ.out _ hb2; have HOWN := Lib.hid (show w2.ownsRow (w.alloc (.cells #[.int .i64 (N : Int), .slice a1 m c1, .slice a2 lo c2] 26)).heap.size 3 1 (.slice (some ⟨(w.alloc (.cells #[.int .i64 (N : Int), .slice a1 m c1, .slice a2 lo c2] 26)).heap.size, 0, none⟩) (N + 1) (N + 1)) (List.replicate (N + 1) (0 : Int)).length ((List.replicate (N + 1) (0 : Int)).map (Value.int .i64)) by rw [List.length_replicate]; exact own_at hh (Nat.le_refl _) (by simp) (by unfold maxLen; omega)); have HB2 := Lib.hid hb2; have HSZ := Lib.hid (Nat.le_of_lt hsz2); clear hh hb2 hsz2 hbw2; generalize w.alloc (.cells #[.int .i64 (N : Int), .slice a1 m c1, .slice a2 lo c2] 26) = w0 at *; generalize hq : w0.heap.size = q at *)
  clear t0 t1 t2
  have HQE := Lib.hid hq
  clear hq
  go_loopw [4, 3] (fun i u wr => ∃ (k : Nat) (d : List Int), k ≤ m ∧ i = .int .i64 (k : Int) ∧ wr.ownsRow q 3 1 u d.length (d.map (Value.int .i64)) ∧ Below q w0 wr ∧ q ≤ wr.heap.size ∧ Hid (d = depthsV N (ps.take k))) (fun i _ _ => m - (intOf i).toNat)
  case atStart => exact ⟨0, List.replicate (N + 1) 0, Nat.zero_le _, rfl, by first | exact HOWN.out | (have := HOWN.out; simpa using this), HB2.out, HSZ.out, by rw [List.take_zero]; rfl⟩
  case round =>
    obtain ⟨k, d, hk, rfl, hown, hbr, hsz, HS⟩ := hrel
    have HLD := Lib.hid (HDI.out k hk)
    rw [← HS.out] at HLD
    clear HOWN HB2 HSZ
    obtain ⟨⟨t0, t1, t2⟩, hbw⟩ := HBX.out _ hbr
    by_cases hlt : k < m
    · obtain ⟨b, off, ha, hbl, hcl⟩ := HU.out.resolve_left (by omega)
      subst ha
      obtain ⟨x0, x1⟩ := hcl k hlt
      have y0 := (hbw.cell (p := ⟨b, off + k * 2, none⟩) hbl).trans x0
      have y1 := (hbw.cell (p := ⟨b, off + k * 2 + 1, none⟩) hbl).trans x1
      obtain ⟨o1, o2, o3⟩ := (okP_iff _ _ _).1 (HOKP.out k hlt)
      have HTT := Lib.hid (HTK.out k hlt)
      rw [← HS.out] at HTT
      have hdl : d.length = N + 1 + k := HLD.out.len
      clear hcl x0 x1 hbw
      generalize ps.getD k (0, 0) = xy at *
      obtain ⟨x, y⟩ := xy
      simp only at o1 o2 o3 y0 y1 HTT
      obtain ⟨X, hX⟩ : ∃ X : Nat, x / 2 = (X : Int) := ⟨(x / 2).toNat, by omega⟩
      obtain ⟨Y, hY⟩ : ∃ Y : Nat, y / 2 = (Y : Int) := ⟨(y / 2).toNat, by omega⟩
      have hXn : X < d.length := by omega
      have hYn : Y < d.length := by omega
      have l1 := HLD.out.lo X
      have l2 := HLD.out.hi X
      have l3 := HLD.out.lo Y
      have l4 := HLD.out.hi Y
      have HSD : Hid (stepD d (x, y) = d ++ [1 + max (d.getD X 0) (d.getD Y 0)]) := by
        unfold Hid stepD
        simp only
        rw [hX, hY]
        rfl
      rw [HSD.out] at HTT
      have HROW := Lib.hid (own_row hown)
      have HP2 := Lib.hid hown
      have HP3 := Lib.hid hbr
      have HP4 : Hid (q ≤ wr.heap.size) := hsz
      have hbq : w.heap.size < q := by have := HB0.out; have := HQE.out; omega
      obtain ⟨g, cd, rfl, hgq, hgl, hnc, hcm⟩ := own_some hown (by omega)
      have hcx : ∀ i, i < d.length → wr.cell? ⟨g, i, none⟩ = some (.int .i64 (d.getD i 0)) := fun i hi => by
        have := hown.cells (g := g) rfl i (.int .i64 (d.getD i 0)) (by simp [List.getD, hi])
        rwa [show (⟨g, 0, none⟩ : Addr).add i = ⟨g, i, none⟩ by unfold Addr.add; split <;> simp_all] at this
      have dX := hcx X hXn
      have dY := hcx Y hYn
      have HDL := Lib.hid hdl
      clear hdl hcx o1 o2 o3 hown hbr
      have hbl2 : b < q := by omega
      generalize hmx : max (d.getD X 0) (d.getD Y 0) = mx at *
      have hmx3 : (d.getD Y 0 < d.getD X 0 ∧ ¬ d.getD X 0 < d.getD Y 0 ∧ mx = d.getD X 0) ∨ (d.getD X 0 < d.getD Y 0 ∧ ¬ d.getD Y 0 < d.getD X 0 ∧ mx = d.getD Y 0) ∨ (d.getD X 0 = d.getD Y 0 ∧ mx = d.getD X 0) := by omega
      clear hmx
      generalize d.getD X 0 = vx at *
      generalize d.getD Y 0 = vy at *
      have hbX : X ≤ 8000 := by have := HDL.out; omega
      have hbY : Y ≤ 8000 := by have := HDL.out; omega
      have hndb : d.length ≤ 10000 := by have := HDL.out; omega
      generalize hnd : d.length = nd at *
      have HND := Lib.hid hnd
      clear hnd
      have i1 : (0 : Int) ≤ (X : Int) := Int.natCast_nonneg X
      have i2 : (X : Int) < (nd : Int) := by omega
      have i3 : (0 : Int) ≤ (Y : Int) := Int.natCast_nonneg Y
      have i4 : (Y : Int) < (nd : Int) := by omega
      go_upto_region 5 with fail
      obtain ⟨wp, rfl⟩ : ∃ wp : World, wp = wr := ⟨_, rfl⟩
      have hk0 : (0 : Int) ≤ (k : Int) := Int.natCast_nonneg k
      have hk1 : (k : Int) < (m : Int) := by omega
      have HMP : w.heap.size < wp.heap.size ∧ b < wp.heap.size := by omega
      have HP0 := Lib.hid (And.intro t1 (And.intro y0 y1))
      have dX1 : wp.drew.cell? ⟨g, X, none⟩ = some (.int .i64 vx) := dX
      have dY1 : wp.drew.cell? ⟨g, Y, none⟩ = some (.int .i64 vy) := dY
      have w1x : IntKind.i64.wrap (1 + vx) = 1 + vx := IntWalk.i64_in _ (by omega)
      have w1y : IntKind.i64.wrap (1 + vy) = 1 + vy := IntWalk.i64_in _ (by omega)
      have HFF : Hid (∀ z : Int, Hid (Below wp.heap.size wp (wp.drew.alloc (.cells #[.int .i64 z] 3))) ∧ Hid ((wp.drew.alloc (.cells #[.int .i64 z] 3)).ownsRow q 3 1 (.slice (some ⟨g, 0, none⟩) nd cd) nd (d.map (Value.int .i64))) ∧ Hid (q ≤ (wp.drew.alloc (.cells #[.int .i64 z] 3)).heap.size) ∧
          Hid ((wp.drew.alloc (.cells #[.int .i64 z] 3)).cell? ⟨w.heap.size, 1, none⟩ = some (.slice (some ⟨b, off, none⟩) m c1) ∧ (wp.drew.alloc (.cells #[.int .i64 z] 3)).cell? ⟨b, off + k * 2, none⟩ = some (.int .i64 x) ∧ (wp.drew.alloc (.cells #[.int .i64 z] 3)).cell? ⟨b, off + k * 2 + 1, none⟩ = some (.int .i64 y)) ∧
          Hid (∀ u6 w6, w6.ownsRow q 3 1 u6 (nd + 1) (d.map (Value.int .i64) ++ [.int .i64 z]) → App q (wp.drew.alloc (.cells #[.int .i64 z] 3)) w6 (.slice (some ⟨g, 0, none⟩) nd cd) u6 → (w6.cell? ⟨w.heap.size, 1, none⟩ = some (.slice (some ⟨b, off, none⟩) m c1) ∧ w6.cell? ⟨b, off + k * 2, none⟩ = some (.int .i64 x) ∧ w6.cell? ⟨b, off + k * 2 + 1, none⟩ = some (.int .i64 y)) ∧ w6.ownsRow q 3 1 u6 (d ++ [z]).length ((d ++ [z]).map (Value.int .i64)) ∧ Below q w0 w6 ∧ q ≤ w6.heap.size)) := fun z => by
        have hBA : Below wp.heap.size wp (wp.drew.alloc (.cells #[.int .i64 z] 3)) := ((Below.refl _ _).drew).alloc (Nat.le_refl _) _
        have hz : q ≤ (wp.drew.alloc (.cells #[.int .i64 z] 3)).heap.size := Nat.le_trans HP4.out hBA.size
        have hc0 := (hBA.cell (p := ⟨w.heap.size, 1, none⟩) HMP.1).trans t1
        have hc1 := (hBA.cell (p := ⟨b, off + k * 2, none⟩) HMP.2).trans y0
        have hc2 := (hBA.cell (p := ⟨b, off + k * 2 + 1, none⟩) HMP.2).trans y1
        refine ⟨hBA, own_keep HP2.out hBA, hz, ⟨hc0, hc1, hc2⟩, fun u6 w6 hown6 hap => ?_⟩
        have hpp := hap.other w.heap.size (World.block_lt_of_cell? _ _ hc0) (by simp [Value.ownBlock]; omega)
        have hpb := hap.other b (World.block_lt_of_cell? _ _ hc1) (by simp [Value.ownBlock]; omega)
        exact ⟨⟨(World.cell?_of_block (a := ⟨w.heap.size, 1, none⟩) hpp).trans hc0, (World.cell?_of_block (a := ⟨b, off + k * 2, none⟩) hpb).trans hc1, (World.cell?_of_block (a := ⟨b, off + k * 2 + 1, none⟩) hpb).trans hc2⟩, by rw [List.length_append, List.length_singleton, HND.out, List.map_append]; exact hown6, (HP3.out.trans (hBA.mono HP4.out)).trans (hap.below.mono (Nat.le_refl _)), Nat.le_trans hz hap.below.size⟩
      clear HP2 HP3 HP4 t0 t1 t2 y0 y1 HROW HMP
      have wX : IntKind.i64.wrap (X : Int) = (X : Int) := IntWalk.i64_in _ (by omega)
      have wY : IntKind.i64.wrap (Y : Int) = (Y : Int) := IntWalk.i64_in _ (by omega)
      rcases hmx3 with ⟨m1, m2, m3⟩ | ⟨m1, m2, m3⟩ | ⟨m1, m3⟩
      · rw [m3] at HTT
        clear m3
        obtain ⟨HBA, HOW, HSA, HP2K, HF⟩ := HFF.out (1 + vx)
        have HP1 : Hid (wp.drew.cell? ⟨w.heap.size, 1, none⟩ = some (.slice (some ⟨b, off, none⟩) m c1) ∧ wp.drew.cell? ⟨b, off + k * 2, none⟩ = some (.int .i64 x) ∧ wp.drew.cell? ⟨b, off + k * 2 + 1, none⟩ = some (.int .i64 y)) := HP0.out
        rw [← ldRa_eq, ← ldRb_eq]
        have hda := ldRa_eq
        have hdb := ldRb_eq
        · skip
          go_region_held3 (fun W => W.cell? ⟨w.heap.size, 1, none⟩ = some (.slice (some ⟨b, off, none⟩) m c1) ∧ W.cell? ⟨b, off + k * 2, none⟩ = some (.int .i64 x) ∧ W.cell? ⟨b, off + k * 2 + 1, none⟩ = some (.int .i64 y)) (first | (with_reducible exact HP0.out) | (with_reducible exact HP1.out) | (with_reducible exact HP2K.out) | (with_reducible exact HP6.out) | (exact HP1.out) | (exact HP2K.out)) (first
            | (refine step_ldI 27 ldRa ldRa_eq rfl rfl _ g X (.int .i64 vx) rfl (by first | exact dX1 | exact dX) ?_)
            | (refine step_ldI 37 ldRb ldRb_eq rfl rfl _ g Y (.int .i64 vy) rfl (by first | exact dY1 | exact dY) ?_)
            | (refine step_appC 22 3 _ 1 8 Tryd.underlying22 infoInt rfl (by decide) (by decide) rfl _ _ rfl _ q (.slice (some ⟨g, 0, none⟩) nd cd) nd (d.map (Value.int .i64)) (some ⟨wp.heap.size, 0, none⟩) 1 1 [.int .i64 (1 + vx)] HOW.out HSA.out (by omega) rfl (.inr ⟨_, rfl, lit_cells wp.drew _⟩) (lit_one _) rfl rfl ?_; intro u6 w6 hown6 hap6; obtain ⟨e6, hf6⟩ := HF.out u6 w6 hown6 hap6; have HP6 := Lib.hid e6; have HF6 := Lib.hid hf6; clear hown6 hap6 hf6 e6))
          all_goals
            clear hda hdb
            go_wp2_with fail
            go_roundw
          all_goals first
            | exact ⟨k + 1, d ++ [1 + vx], by omega, by go_num, HF6.out.1, HF6.out.2.1, HF6.out.2.2, HTT.out.symm⟩
            | (simp [intOf]; omega)
      · rw [m3] at HTT
        clear m3
        obtain ⟨HBA, HOW, HSA, HP2K, HF⟩ := HFF.out (1 + vy)
        have HP1 : Hid (wp.drew.cell? ⟨w.heap.size, 1, none⟩ = some (.slice (some ⟨b, off, none⟩) m c1) ∧ wp.drew.cell? ⟨b, off + k * 2, none⟩ = some (.int .i64 x) ∧ wp.drew.cell? ⟨b, off + k * 2 + 1, none⟩ = some (.int .i64 y)) := HP0.out
        rw [← ldRa_eq, ← ldRb_eq]
        have hda := ldRa_eq
        have hdb := ldRb_eq
        · skip
          go_region_held3 (fun W => W.cell? ⟨w.heap.size, 1, none⟩ = some (.slice (some ⟨b, off, none⟩) m c1) ∧ W.cell? ⟨b, off + k * 2, none⟩ = some (.int .i64 x) ∧ W.cell? ⟨b, off + k * 2 + 1, none⟩ = some (.int .i64 y)) (first | (with_reducible exact HP0.out) | (with_reducible exact HP1.out) | (with_reducible exact HP2K.out) | (with_reducible exact HP6.out) | (exact HP1.out) | (exact HP2K.out)) (first
            | (refine step_ldI 27 ldRa ldRa_eq rfl rfl _ g X (.int .i64 vx) rfl (by first | exact dX1 | exact dX) ?_)
            | (refine step_ldI 37 ldRb ldRb_eq rfl rfl _ g Y (.int .i64 vy) rfl (by first | exact dY1 | exact dY) ?_)
            | (refine step_appC 22 3 _ 1 8 Tryd.underlying22 infoInt rfl (by decide) (by decide) rfl _ _ rfl _ q (.slice (some ⟨g, 0, none⟩) nd cd) nd (d.map (Value.int .i64)) (some ⟨wp.heap.size, 0, none⟩) 1 1 [.int .i64 (1 + vy)] HOW.out HSA.out (by omega) rfl (.inr ⟨_, rfl, lit_cells wp.drew _⟩) (lit_one _) rfl rfl ?_; intro u6 w6 hown6 hap6; obtain ⟨e6, hf6⟩ := HF.out u6 w6 hown6 hap6; have HP6 := Lib.hid e6; have HF6 := Lib.hid hf6; clear hown6 hap6 hf6 e6))
          all_goals
            clear hda hdb
            go_wp2_with fail
            go_roundw
          all_goals first
            | exact ⟨k + 1, d ++ [1 + vy], by omega, by go_num, HF6.out.1, HF6.out.2.1, HF6.out.2.2, HTT.out.symm⟩
            | (simp [intOf]; omega)
      · rw [m3] at HTT
        clear m3
        subst m1
        have m2 : ¬ vx < vx := Int.lt_irrefl _
        obtain ⟨HBA, HOW, HSA, HP2K, HF⟩ := HFF.out (1 + vx)
        have HP1 : Hid (wp.drew.cell? ⟨w.heap.size, 1, none⟩ = some (.slice (some ⟨b, off, none⟩) m c1) ∧ wp.drew.cell? ⟨b, off + k * 2, none⟩ = some (.int .i64 x) ∧ wp.drew.cell? ⟨b, off + k * 2 + 1, none⟩ = some (.int .i64 y)) := HP0.out
        rw [← ldRa_eq, ← ldRb_eq]
        have hda := ldRa_eq
        have hdb := ldRb_eq
        · skip
          go_region_held3 (fun W => W.cell? ⟨w.heap.size, 1, none⟩ = some (.slice (some ⟨b, off, none⟩) m c1) ∧ W.cell? ⟨b, off + k * 2, none⟩ = some (.int .i64 x) ∧ W.cell? ⟨b, off + k * 2 + 1, none⟩ = some (.int .i64 y)) (first | (with_reducible exact HP0.out) | (with_reducible exact HP1.out) | (with_reducible exact HP2K.out) | (with_reducible exact HP6.out) | (exact HP1.out) | (exact HP2K.out)) (first
            | (refine step_ldI 27 ldRa ldRa_eq rfl rfl _ g X (.int .i64 vx) rfl (by first | exact dX1 | exact dX) ?_)
            | (refine step_ldI 37 ldRb ldRb_eq rfl rfl _ g Y (.int .i64 vx) rfl (by first | exact dY1 | exact dY) ?_)
            | (refine step_appC 22 3 _ 1 8 Tryd.underlying22 infoInt rfl (by decide) (by decide) rfl _ _ rfl _ q (.slice (some ⟨g, 0, none⟩) nd cd) nd (d.map (Value.int .i64)) (some ⟨wp.heap.size, 0, none⟩) 1 1 [.int .i64 (1 + vx)] HOW.out HSA.out (by omega) rfl (.inr ⟨_, rfl, lit_cells wp.drew _⟩) (lit_one _) rfl rfl ?_; intro u6 w6 hown6 hap6; obtain ⟨e6, hf6⟩ := HF.out u6 w6 hown6 hap6; have HP6 := Lib.hid e6; have HF6 := Lib.hid hf6; clear hown6 hap6 hf6 e6))
          all_goals
            clear hda hdb
            go_wp2_with fail
            go_roundw
          all_goals first
            | exact ⟨k + 1, d ++ [1 + vx], by omega, by go_num, HF6.out.1, HF6.out.2.1, HF6.out.2.2, HTT.out.symm⟩
            | (simp [intOf]; omega)
    · have hkm : m = k := by omega
      have HD : Hid (d = depthsV N ps) := by
        have := HS.out
        rw [← hkm, HTE.out] at this
        exact this
      have HBD := Lib.hid (depthO_bd d 8000 (by omega) (fun j => by have := HLD.out.hi j; omega))
      have HDL : Hid (d.length = N + 1 + m) := by unfold Hid; rw [hkm]; exact HLD.out.len
      obtain ⟨g, cd, rfl, hgq, hgl, hnc, hcm⟩ := own_some hown (by have := HDL.out; omega)
      have HCX : Hid (∀ i, i < d.length → wr.cell? ⟨g, i, none⟩ = some (.int .i64 (d.getD i 0))) := fun i hi => by
        have := hown.cells (g := g) rfl i (.int .i64 (d.getD i 0)) (by simp [List.getD, hi])
        rwa [show (⟨g, 0, none⟩ : Addr).add i = ⟨g, i, none⟩ by unfold Addr.add; split <;> simp_all] at this
      have HBW := Lib.hid hbw
      have HT2 := Lib.hid (fun j hj => HTO.out d j hj)
      have HF2 : Hid (depthO d os = fin) := by unfold Hid; rw [HD.out]; exact HDV.out.symm
      have HLOD := Lib.hid (fun j => And.intro (HLD.out.lo j) (HLD.out.hi j))
      have hm8 : m ≤ 8000 := by omega
      clear hown hbr hbw hsz hkm hk HTK HDI HS HTO
      generalize hnd : d.length = nd at *
      have HND := Lib.hid hnd
      clear hnd
      go_wp2_with fail
      go_loop [6, 5] (fun i o => ∃ j : Nat, j ≤ lo ∧ i = .int .i64 (j : Int) ∧ o = .int .i64 (depthO d (os.take j))) (fun i _ => lo - (intOf i).toNat)
      case atStart => exact ⟨0, Nat.zero_le _, rfl, rfl⟩
      case round =>
        obtain ⟨j, hj, rfl, rfl⟩ := hrel
        by_cases hlt2 : j < lo
        · obtain ⟨b, off, ha, hbl, hcl⟩ := HV.out.resolve_left (by omega)
          subst ha
          have y0 := (HBW.out.cell (p := ⟨b, off + j, none⟩) hbl).trans (hcl j hlt2)
          obtain ⟨o1, o2⟩ := (okO_iff _ _).1 (HOKO.out j hlt2)
          have HTT := Lib.hid (HT2.out j hlt2)
          have hb := HBD.out (os.take j)
          clear hcl
          generalize os.getD j 0 = o at *
          obtain ⟨X, hX⟩ : ∃ X : Nat, o / 2 = (X : Int) := ⟨(o / 2).toNat, by omega⟩
          have hXn : X < nd := by have := HDL.out; omega
          have hX8 : X ≤ 8000 := by omega
          have dX := HCX.out X hXn
          have hl := HLOD.out X
          rw [hX, show ((X : Int)).toNat = X by omega] at HTT
          generalize depthO d (os.take j) = c at *
          have hmx3 : (d.getD X 0 < c ∧ ¬ c < d.getD X 0 ∧ max c (d.getD X 0) = c) ∨ (c < d.getD X 0 ∧ ¬ d.getD X 0 < c ∧ max c (d.getD X 0) = d.getD X 0) ∨ (c = d.getD X 0 ∧ max c (d.getD X 0) = c) := by omega
          clear o1 o2
          generalize d.getD X 0 = vx at *
          rcases hmx3 with ⟨m1, m2, m3⟩ | ⟨m1, m2, m3⟩ | ⟨m1, m3⟩
          · rw [m3] at HTT
            clear m3
            go_wp2_with fail
            go_round
            case rel => exact ⟨j + 1, by omega, by go_num, by rw [HTT.out]⟩
            case measure => simp [intOf]; omega
          · rw [m3] at HTT
            clear m3
            go_wp2_with fail
            go_round
            case rel => exact ⟨j + 1, by omega, by go_num, by rw [HTT.out]⟩
            case measure => simp [intOf]; omega
          · rw [m3] at HTT
            clear m3
            subst m1
            have m2 : ¬ c < c := Int.lt_irrefl _
            go_wp2_with fail
            go_round
            case rel => exact ⟨j + 1, by omega, by go_num, by rw [HTT.out]⟩
            case measure => simp [intOf]; omega
        · have hjl : lo = j := by omega
          subst hjl
          rw [HTE2.out, HF2.out]
          go_wp2_with fail
          go_ret
          exact ⟨rfl, HBW.out⟩
end Go.Proofs.YtdmhjpofinnpmaaDoor

namespace Go.Proofs.YtdmhjpofinnpmaaDoor
open Go.RowKit

theorem take_getD (bys : List Int) (k i : Nat) : (bys.take k).getD i 0 = if i < k then bys.getD i 0 else 0 := by
  simp only [List.getD, List.getElem?_take]
  split <;> rfl
theorem inL_zero (N m : Nat) (bys : List Int) : inL N m (bys.take 0) = List.replicate (N + m + 1) 0 := by
  refine getD_ext (by rw [inL_len]; simp; omega) fun j _ => ?_
  rw [inL_get]
  have e : (List.replicate (N + m + 1) (0 : Int)).getD j 0 = 0 := by simp only [List.getD, List.getElem?_replicate]; split <;> rfl
  rw [e, List.take_zero]
  split <;> rfl
theorem inL_turn {N m k : Nat} {bys : List Int} (h1 : k < N) : inL N m (bys.take (k + 1)) = (inL N m (bys.take k)).set (k + 1) (bys.getD k 0) := by
  refine getD_ext (by rw [List.length_set, inL_len, inL_len]) fun j _ => ?_
  rw [getD_setI, inL_get, inL_get, inL_len, take_getD, take_getD]
  by_cases e : k + 1 = j
  · subst e
    rw [show k + 1 - 1 = k by omega]
    repeat' split
    all_goals first | rfl | omega
  · repeat' split
    all_goals first | rfl | omega
theorem inL_stay {N m k : Nat} {bys : List Int} (h : bys.length ≤ k) : inL N m (bys.take (k + 1)) = inL N m (bys.take k) := by
  rw [List.take_of_length_le (by omega), List.take_of_length_le h]
theorem inL_all (N m : Nat) (bys : List Int) : inL N m (bys.take N) = inL N m bys := by
  refine getD_ext (by rw [inL_len, inL_len]) fun j _ => ?_
  rw [inL_get, inL_get, take_getD]
  by_cases hj : 1 ≤ j ∧ j ≤ N
  · rw [if_pos hj, if_pos hj, if_pos (by omega)]
  · rw [if_neg hj, if_neg hj]
theorem ren_turn (t : List Int) (l : Int) (X : Nat) (h : l / 2 = (X : Int)) : renL t l = turnI (t.getD X 0) l := by
  unfold renL turnI
  rw [h, show ((X : Int)).toNat = X by omega]

set_option maxRecDepth 8000 in
set_option maxHeartbeats 4000000 in
theorem reach_cel (N : Nat) (u v : Value) (ps : List (Int × Int)) (os : List Int) (l : Int) (L : Nat) (w : World) (hu : PRow w u ps) (hv : Row w v os) (hc : checkC (N : Int) ps os = 0) (h0 : 0 ≤ l) (hL : l / 2 = (L : Int)) (hLN : L ≤ N + ps.length) :
    Calls Tryd.prog 38 #[circV (N : Int) u v, .int .i64 l] w fun e w' => (∃ r, e = .returned (.slice (some ⟨r, 0, none⟩) (N + ps.length + 1) (N + ps.length + 1)) ∧ CelG Value.bool false w' r (reachL N ps L) ∧ w.heap.size ≤ r) ∧ Below w.heap.size w w' := by
  obtain ⟨hnm, hokp, hoko⟩ := check_zero8 hc
  have HOX : Hid (∀ k, k < ps.length → 0 ≤ (ps.getD k (0, 0)).1 ∧ 0 ≤ (ps.getD k (0, 0)).2 ∧ (ps.getD k (0, 0)).1 / 2 ≤ ((N + k : Nat) : Int) ∧ (ps.getD k (0, 0)).2 / 2 ≤ ((N + k : Nat) : Int)) := fun k hk => by
    have := (okP_iff _ _ _).1 (hokp k hk)
    omega
  obtain ⟨a1, c1, rfl, hu1, hu2, hu3⟩ := hu
  obtain ⟨a2, c2, rfl, hv1, hv2, hv3⟩ := hv
  have HU := Lib.hid hu3
  have HBX := Lib.hid (fun W hW => cirC_box w W (N : Int) (.slice a1 ps.length c1) (.slice a2 os.length c2) hW)
  unfold CirC at HBX
  have HB0 : Hid ((w.alloc (.cells #[.int .i64 (N : Int), .slice a1 ps.length c1, .slice a2 os.length c2] 26)).heap.size = w.heap.size + 1) := by unfold Hid; simp
  rw [← HB0.out] at HBX
  have HRS := Lib.hid (fun k v => reach_step8 (N := N) (k := k) (ps := ps) (v := v))
  have HFIN : Hid (reachN N ps ps.length (seedR (N + ps.length + 1) L) = reachL N ps L) := rfl
  unfold maxLen at hu2
  clear hc hoko hokp hu3 hv3 hv1 hv2
  unfold circV at *
  have hn0 : ¬ l < 0 := by omega
  generalize reachL N ps L = fin at *
  generalize hm : ps.length = m at *
  have HM := Lib.hid hm
  clear hm
  generalize os.length = lo at *
  generalize hK : N + m + 1 = K at *
  have HK := Lib.hid hK
  clear hK
  have hLK : L < K := by have := HK.out; omega
  have hLI : ¬ ((N : Int) + (m : Int) < (L : Int)) := by omega
  have HZ := Lib.hid (fun w2 (hb2 : Below (w.alloc (.cells #[.int .i64 (N : Int), .slice a1 m c1, .slice a2 lo c2] 26)).heap.size (w.alloc (.cells #[.int .i64 (N : Int), .slice a1 m c1, .slice a2 lo c2] 26)) w2) => HBX.out w2 hb2)
  go_enter Tryd.func38, Tryd.ntmps38
  go_wp2_with (at_make; refine wpList_makeG Value.bool false 28 4 1 Tryd.underlying28 infoBool9 rfl (by decide) rfl _ _ rfl _ K (by rw [← HK.out]; rfl) (by rw [← HK.out]; rfl) (by have := HK.out; omega) ?_; intro w2 hcel hb2 hsz2; obtain ⟨⟨t0, t1, t2⟩, hbw2⟩ := HZ.out _ hb2; have z0 := hcel.cells L (by have := HK.out; simp; omega); have zf := hcel.free L; have HC2 := Lib.hid (hcel.set L true); have HB2 := Lib.hid hb2; clear hb2 hbw2 hcel; have hqs : w.heap.size < (w.alloc (.cells #[.int .i64 (N : Int), .slice a1 m c1, .slice a2 lo c2] 26)).heap.size := (by simp); generalize w.alloc (.cells #[.int .i64 (N : Int), .slice a1 m c1, .slice a2 lo c2] 26) = w0 at *; generalize hq : w0.heap.size = q at *)
  have HBW2 := Lib.hid (HB2.out.setCell (show q ≤ (⟨q, L, none⟩ : Addr).block from Nat.le_refl _) (.bool true))
  clear t0 t1 t2 zf z0
  go_loopw [7] (fun i wr => ∃ (k : Nat) (v : List Bool), i = .int .i64 ((k : Int) - 1) ∧ k ≤ m ∧ CelG Value.bool false wr q v ∧ v.length = K ∧ Below q w0 wr ∧ Hid (reachN N ps k v = fin)) (fun i _ => (intOf i + 1).toNat)
  case atStart => exact ⟨m, (List.replicate K false).set L true, rfl, Nat.le_refl _, HC2.out, by simp, HBW2.out, HFIN.out⟩
  case round =>
    obtain ⟨k, v, rfl, hkm, hcel, hvl, hbr, HR⟩ := hrel
    clear HC2 HB2 HBW2 hsz2
    obtain ⟨⟨t0, t1, t2⟩, hbw⟩ := HBX.out _ hbr
    cases k with
    | zero =>
      rw [show (((0 : Nat) : Int) - 1) = -1 from rfl]
      have HR2 : Hid (v = fin) := HR.out
      have HCEL := Lib.hid hcel
      have HBW := Lib.hid hbw
      clear hcel hbr hbw HR
      go_wp2_with fail
      go_ret
      exact ⟨⟨q, rfl, by rw [← HR2.out]; exact HCEL.out, Nat.le_of_lt hqs⟩, HBW.out⟩
    | succ j =>
      rw [show (((j + 1 : Nat) : Int) - 1) = (j : Int) by omega]
      have HST := Lib.hid (HRS.out j v)
      have hjK : N + j + 1 < K := by have := HK.out; omega
      have y0 := hcel.cells (N + j + 1) (by omega)
      cases hvj : v.getD (N + j + 1) false with
      | true =>
        rw [hvj] at y0
        obtain ⟨b, off, ha, hbl, hcl⟩ := HU.out.resolve_left (by omega)
        subst ha
        have hbq : b < q := by omega
        obtain ⟨x0, x1⟩ := hcl j (by omega)
        have g0 := (hbw.cell (p := ⟨b, off + j * 2, none⟩) hbl).trans x0
        have g1 := (hbw.cell (p := ⟨b, off + j * 2 + 1, none⟩) hbl).trans x1
        obtain ⟨o1, o2, o3, o4⟩ := HOX.out j (by omega)
        have HR2 : Hid (reachN N ps j (markR v (ps.getD j (0, 0))) = fin) := by
          have := HST.out
          rw [hvj, if_pos rfl] at this
          exact this.symm.trans HR.out
        clear hvj HR HST hcl x0 x1
        generalize ps.getD j (0, 0) = xy at *
        obtain ⟨x, y⟩ := xy
        simp only at o1 o2 o3 o4 g0 g1
        obtain ⟨X, hX⟩ : ∃ X : Nat, x / 2 = (X : Int) := ⟨(x / 2).toNat, by omega⟩
        obtain ⟨Y, hY⟩ : ∃ Y : Nat, y / 2 = (Y : Int) := ⟨(y / 2).toNat, by omega⟩
        have HMK : Hid (markR v (x, y) = (v.set X true).set Y true) := by unfold Hid markR; simp only; rw [hX, hY]; rfl
        have hXK : X < K := by have := HK.out; omega
        have hYK : Y < K := by have := HK.out; omega
        have f0 := hcel.free X
        have f1 := hcel.free Y
        have z0 := hcel.cells X (by omega)
        have z1 := (hcel.set X true).cells Y (by simp; omega)
        have f2 := (hcel.set X true).free Y
        have HCEL := Lib.hid hcel
        have HBR := Lib.hid hbr
        clear hbw hbr hcel o3 o4
        generalize v.getD X false = vx at *
        generalize (v.set X true).getD Y false = vy at *
        go_wp2_with fail
        go_roundw
        case rel =>
          rw [HMK.out] at HR2
          exact ⟨j, (v.set X true).set Y true, by go_num, by omega, (HCEL.out.set X true).set Y true, by simp [hvl], (HBR.out.setCell (Nat.le_refl _) _).setCell (Nat.le_refl _) _, HR2.out⟩
        case measure => simp [intOf]
      | false =>
        rw [hvj] at y0
        have HR2 : Hid (reachN N ps j v = fin) := by
          have := HST.out
          rw [hvj, if_neg (by decide)] at this
          exact this.symm.trans HR.out
        have HCEL := Lib.hid hcel
        have HBR := Lib.hid hbr
        clear hvj HR HST hcel hbr hbw
        go_wp2_with fail
        go_roundw
        case rel => exact ⟨j, v, by go_num, by omega, HCEL.out, hvl, HBR.out, HR2.out⟩
        case measure => simp [intOf]

set_option maxRecDepth 8000 in
set_option maxHeartbeats 8000000 in
theorem rcopy_any (N : Nat) (u v gv by_v : Value) (ps : List (Int × Int)) (os bys : List Int) (l : Int) (L : Nat) (w : World) (S : List Nat) (g : Gr) (hG : RgM w gv S g) (hR : ∀ W, Chg S w W → PRow W u ps ∧ Row W v os ∧ Row W by_v bys)
    (hc : checkC (N : Int) ps os = 0) (h0 : 0 ≤ l) (hL : l / 2 = (L : Int)) (hLN : L ≤ N + ps.length) (hbl : ∀ b ∈ bys, g.isB b = true) (hg : g.len + N + ps.length + 1 ≤ 8000) (_hbn : bys.length ≤ 1000) :
    Calls Tryd.prog 26 #[gv, circV (N : Int) u v, .int .i64 l, by_v] w (GPost (fun W S g => RgM W gv S g) w S (copyV N ps g bys l)) := by
  obtain ⟨hnm, hokp, hoko⟩ := check_zero8 hc
  have HK := Lib.hid (rgKind gv)
  have HSL := Lib.hid (fun i (hi : i ∈ S) => HK.out.lt hG i hi)
  have HRE := Lib.hid (fun W (hW : Chg S w W) => reach_cel N u v ps os l L W (hR W hW).1 (hR W hW).2.1 hc h0 hL hLN)
  have HPR := Lib.hid (fun W (hW : Chg S w W) => (hR W hW).1)
  have HBY := Lib.hid (fun W (hW : Chg S w W) => (hR W hW).2.2)
  have HOX : Hid (∀ k, k < ps.length → 0 ≤ (ps.getD k (0, 0)).1 ∧ 0 ≤ (ps.getD k (0, 0)).2 ∧ (ps.getD k (0, 0)).1 / 2 ≤ ((N + k : Nat) : Int) ∧ (ps.getD k (0, 0)).2 / 2 ≤ ((N + k : Nat) : Int)) := fun k hk => by
    have := (okP_iff _ _ _).1 (hokp k hk)
    omega
  have hLt : (l / 2).toNat = L := by omega
  have HL62 : Hid (l < 20000) := by unfold Hid; omega
  have HCV : Hid (copyV N ps g bys l = ((copyC N ps g bys (coneL N ps L)).1, renL (copyC N ps g bys (coneL N ps L)).2 l)) := by unfold Hid copyV; rw [hLt]
  have HCI := Lib.hid (fun k (hk : k ≤ N + ps.length + 1) => (show CopI N ps g (coneF N (hangs N ps L) k).length (copyC N ps g bys (coneF N (hangs N ps L) k)) by
    have h1 := coneF_len N (hangs N ps L) k
    have := CopI.at (N := N) (ps := ps) hbl (coneF N (hangs N ps L) k) (by omega) _ (Nat.le_refl _)
    rwa [List.take_length] at this))
  have HCN := Lib.hid (fun k => coneF_len N (hangs N ps L) k)
  have HCS := Lib.hid (fun k => coneF_succ N (hangs N ps L) k)
  have HCT := Lib.hid (fun cone n => copyC_snoc N ps g bys cone n)
  have HCE : Hid (coneF N (hangs N ps L) (N + ps.length + 1) = coneL N ps L) := coneL_all hLN
  have HC0 : Hid (copyC N ps g bys (coneF N (hangs N ps L) (N + 1)) = (g, inL N ps.length bys)) := by rw [coneF_low N _ (N + 1) (Nat.le_refl _)]; rfl
  have HRG := Lib.hid (fun n => reachL_get hc hLN n)
  have HRL := Lib.hid (reachL_len N ps L)
  have HIZ := Lib.hid (inL_zero N ps.length bys)
  have HIT := Lib.hid (fun k h => inL_turn (N := N) (m := ps.length) (k := k) (bys := bys) h)
  have HIS := Lib.hid (fun k h => inL_stay (N := N) (m := ps.length) (k := k) (bys := bys) h)
  have HIA := Lib.hid (inL_all N ps.length bys)
  have HILN := Lib.hid (fun bs => inL_len N ps.length bs)
  obtain ⟨a1, c1, rfl, hu1, hu2, _⟩ := (hR w (Chg.refl _ _)).1
  obtain ⟨a2, c2, rfl, _⟩ := (hR w (Chg.refl _ _)).2.1
  obtain ⟨a3, c3, rfl, hq1, hq2, hq3⟩ := (hR w (Chg.refl _ _)).2.2
  unfold maxLen at hq2 hu2
  have HBX := Lib.hid (CV.new w (N : Int) (.slice a1 ps.length c1) (.slice a2 os.length c2) 26)
  have HBW0 : Hid (Below w.heap.size w (w.alloc (.cells #[.int .i64 (N : Int), .slice a1 ps.length c1, .slice a2 os.length c2] 26))) := (Below.refl _ w).alloc (Nat.le_refl _) _
  have HG := Lib.hid (fun W (hW : Below w.heap.size w W) => HK.out.keep hG (Chg.of_below (S := []) hW) (by simp))
  have HCB := Lib.hid (fun W (hW : Below w.heap.size w W) => Chg.of_below (S := S) hW)
  have HW0 : Hid (w.heap.size < (w.alloc (.cells #[.int .i64 (N : Int), .slice a1 ps.length c1, .slice a2 os.length c2] 26)).heap.size) := by unfold Hid; simp
  clear hc hoko hokp hR hG hbl hLt hq3
  unfold circV at *
  generalize coneL N ps L = cone at *
  generalize reachL N ps L = rl at *
  generalize hangs N ps L = f at *
  generalize hm : ps.length = m at *
  have HM := Lib.hid hm
  clear hm
  generalize os.length = lo at *
  generalize hlb : bys.length = lb at *
  have HLB := Lib.hid hlb
  clear hlb
  generalize hK : N + m + 1 = K at *
  have HKE := Lib.hid hK
  clear hK
  go_enter Tryd.func26, Tryd.ntmps26
  go_wp2_with fail
  generalize w.alloc (.cells #[.int .i64 (N : Int), .slice a1 m c1, .slice a2 lo c2] 26) = w0 at *
  refine (HRE.out _ (HCB.out _ HBW0.out)).mono ?_
  rintro e w1 ⟨⟨r, rfl, hcr, hr⟩, hb1⟩
  have HB1 := Lib.hid (HBX.out.keep hb1)
  have HBW1 := Lib.hid (HBW0.out.trans (hb1.mono HBW0.out.size))
  have HR1 := Lib.hid hcr
  have hrw : w.heap.size < r := Nat.lt_of_lt_of_le HW0.out hr
  have HRL1 : Hid (r < w1.heap.size) := hcr.sq
  have HWW : Hid (w.heap.size < w1.heap.size) := Nat.lt_of_lt_of_le HW0.out hb1.size
  clear hb1 hcr hr HBX HRE
  go_wp2_with (at_make; refine wpList_makeG (Value.int .i64) 0 22 3 8 Tryd.underlying22 infoInt rfl (by decide) rfl _ _ rfl w1 K rfl rfl (by have := HKE.out; omega) ?_; intro w2 hcel hb2 hsz2; have HC2 := Lib.hid hcel; have HB12 := Lib.hid hb2; have HBW2 := Lib.hid (HBW1.out.trans (hb2.mono HBW1.out.size)); have HBB2 := Lib.hid (HB1.out.keep hb2); have HRR2 := Lib.hid (HR1.out.keep hb2); have HSZ2 := Lib.hid hsz2; clear hcel hb2 hsz2)
  have hrq : r < w1.heap.size := HRL1.out
  have hwq : w.heap.size < w1.heap.size := HWW.out
  generalize w1.heap.size = q at *
  rw [← HIZ.out] at HC2
  obtain ⟨t0, t1, t2, tf, tl⟩ := HBB2.out
  clear t0 t1 t2 tf tl
  have HBOX : Hid (∀ W, Below q w2 W → CV W w.heap.size (N : Int) (.slice a1 m c1) (.slice a2 lo c2) ∧ Below w.heap.size w W) := fun W h => ⟨⟨(h.cell (p := ⟨w.heap.size, 0, none⟩) hwq).trans HBB2.out.c0, (h.cell (p := ⟨w.heap.size, 1, none⟩) hwq).trans HBB2.out.c1, (h.cell (p := ⟨w.heap.size, 2, none⟩) hwq).trans HBB2.out.c2, fun k => (h.frozen (p := ⟨w.heap.size, k, none⟩) hwq).trans (HBB2.out.fr k), Nat.lt_of_lt_of_le HBB2.out.lt h.size⟩, HBW2.out.trans (h.mono (Nat.le_of_lt hwq))⟩
  go_loopw [11] (fun i wr => ∃ k : Nat, k ≤ N ∧ i = .int .i64 (k : Int) ∧ CelG (Value.int .i64) 0 wr q (inL N m (bys.take k)) ∧ Below q w2 wr) (fun i _ => N - (intOf i).toNat)
  case atStart => exact ⟨0, Nat.zero_le _, rfl, HC2.out, Below.refl _ _⟩
  case round =>
    obtain ⟨k, hk, rfl, hcel, hbr⟩ := hrel
    clear HC2
    obtain ⟨⟨t0, t1, t2, tf, tl⟩, hbw⟩ := HBOX.out _ hbr
    by_cases hlt : k < N
    · have HBR := Lib.hid hbr
      by_cases hin : k < lb
      · have d1 : decide ((k : Int) < (lb : Int)) = true := decide_eq_true (by omega)
        obtain ⟨ax, cx, he, _, _, hx3⟩ := HBY.out wr (HCB.out _ hbw)
        injection he with he1 _ _
        subst he1
        obtain ⟨b, off, ha, hbl, hcl⟩ := hx3.resolve_left (by rw [HLB.out]; omega)
        subst ha
        have y0 := hcl k (by rw [HLB.out]; exact hin)
        have HN := Lib.hid (HIT.out k hlt)
        have hl9 : (inL N m (bys.take k)).length = K := (HILN.out _).trans (by have := HKE.out; omega)
        have hkK : k + 1 < K := by have := HKE.out; omega
        have s0 := hcel.cells (k + 1) (by omega)
        have sf := hcel.free (k + 1)
        have HCS2 := Lib.hid (hcel.set (k + 1) (bys.getD k 0))
        clear hcl hx3 hbl hcel hbr hbw hl9
        generalize (inL N m (bys.take k)).getD (k + 1) 0 = old at *
        generalize bys.getD k 0 = yb at *
        go_wp2_with fail
        go_roundw
        case rel => exact ⟨k + 1, by omega, by go_num, by rw [HN.out]; exact HCS2.out, HBR.out.setCell (Nat.le_refl _) _⟩
        case measure => simp [intOf]; omega
      · have d1 : decide ((k : Int) < (lb : Int)) = false := decide_eq_false (by omega)
        have HN := Lib.hid (HIS.out k (by omega))
        have HCE2 := Lib.hid hcel
        clear hcel hbr hbw
        go_wp2_with fail
        go_roundw
        case rel => exact ⟨k + 1, by omega, by go_num, by rw [HN.out]; exact HCE2.out, HBR.out⟩
        case measure => simp [intOf]; omega
    · have hkN : N = k := by omega
      subst hkN
      rw [HIA.out] at hcel
      have HBW4 := Lib.hid hbw
      have HBX4 := Lib.hid (HBOX.out _ hbr).1
      have hrr : r < wr.heap.size := Nat.lt_of_lt_of_le hrq (Nat.le_of_lt hcel.sq)
      have HCP4 := Lib.hid (CpI.start (G := fun W S g => RgM W gv S g) (HG.out _ hbw) (fun hm => absurd (HSL.out q hm) (Nat.not_lt.2 (Nat.le_of_lt hwq))) hcel)
      have HR4 : Hid (CelG Value.bool false wr r rl) := ⟨hrr, fun i hi => (hbr.cell (p := ⟨r, i, none⟩) hrq).trans (HRR2.out.cells i hi), fun i => (hbr.frozen (p := ⟨r, i, none⟩) hrq).trans (HRR2.out.free i)⟩
      clear hcel hbr hbw HBOX
      obtain ⟨w4, rfl⟩ : ∃ w4 : World, w4 = wr := ⟨_, rfl⟩
      have HCH := Lib.hid (fun g t W (h : CpI (fun W S g => RgM W gv S g) w4 S q g t W) => h.old (HCB.out _ HBW4.out) (Nat.le_of_lt hwq))
      have hnS : ∀ i, w.heap.size ≤ i → i ≠ q → i ∉ q :: S := fun i hi hq hm => by
        rcases List.mem_cons.1 hm with h | h
        · exact hq h
        · have := HSL.out _ h; omega
      have HOB := Lib.hid (fun W (hW : Chg (q :: S) w4 W) => (show CV W w.heap.size (N : Int) (.slice a1 m c1) (.slice a2 lo c2) from
        ⟨(hW.cell HBX4.out.lt (hnS _ (Nat.le_refl _) (by omega))).trans HBX4.out.c0, (hW.cell HBX4.out.lt (hnS _ (Nat.le_refl _) (by omega))).trans HBX4.out.c1, (hW.cell HBX4.out.lt (hnS _ (Nat.le_refl _) (by omega))).trans HBX4.out.c2, fun k => (cell_frozen hW HBX4.out.lt (hnS _ (Nat.le_refl _) (by omega)) k).trans (HBX4.out.fr k), Nat.lt_of_lt_of_le HBX4.out.lt hW.size⟩))
      have HIR := Lib.hid (fun W (hW : Chg (q :: S) w4 W) i (hi : i < rl.length) => (hW.cell hrr (hnS _ (Nat.le_of_lt hrw) (by omega))).trans (HR4.out.cells i hi))
      have HKQ : K ≤ 8001 := by have := HKE.out; omega
      clear hnS t0 t1 t2 tf tl
      obtain ⟨t0, t1, t2, tf, tl⟩ := HBX4.out
      go_wp2_with fail
      clear t0 t1 t2 tf tl
      go_loopw [12] (fun i wr2 => ∃ k : Nat, k ≤ m ∧ i = .int .i64 (k : Int) ∧ CpI (fun W S g => RgM W gv S g) w4 S q (copyC N ps g bys (coneF N f (N + 1 + k))).1 (copyC N ps g bys (coneF N f (N + 1 + k))).2 wr2) (fun i _ => m - (intOf i).toNat)
      case atStart => exact ⟨0, Nat.zero_le _, rfl, by rw [Nat.add_zero, HC0.out]; exact HCP4.out⟩
      case round =>
        obtain ⟨k, hk, rfl, hcp⟩ := hrel
        clear HCP4
        have HI := Lib.hid (HCI.out (N + 1 + k) (by have := HKE.out; omega))
        have HCL2 := Lib.hid (HCN.out (N + 1 + k))
        obtain ⟨z0, z1, z2, zf, zl⟩ := HOB.out wr hcp.chg
        have HRLN := Lib.hid HRL.out
        by_cases hlt2 : k < m
        · have hkK : N + k + 1 < K := by have := HKE.out; omega
          have y0 := HIR.out wr hcp.chg (N + k + 1) (by have := HRLN.out; omega)
          rw [HRG.out] at y0
          have HST := Lib.hid (HCS.out (N + 1 + k))
          rw [show N + 1 + k + 1 = N + 1 + (k + 1) by omega, show decide (N < N + 1 + k) = true from decide_eq_true (by omega), Bool.and_true, show N + 1 + k = N + k + 1 by omega] at HST
          cases hf : f (N + k + 1) with
          | false =>
            rw [hf] at y0 HST
            have HN : Hid (coneF N f (N + 1 + (k + 1)) = coneF N f (N + 1 + k)) := by
              have := HST.out
              rw [if_neg (by decide)] at this
              rw [show N + 1 + k = N + k + 1 by omega]
              exact this
            have HCP := Lib.hid hcp
            clear hf hcp HI HST
            go_wp2_with fail
            go_roundw
            case rel => exact ⟨k + 1, by omega, by go_num, by rw [HN.out]; exact HCP.out⟩
            case measure => simp [intOf]; omega
          | true =>
            rw [hf] at y0 HST
            have HN : Hid (coneF N f (N + 1 + (k + 1)) = coneF N f (N + 1 + k) ++ [((N + k + 1 : Nat) : Int)]) := by
              have := HST.out
              rw [if_pos rfl] at this
              rw [show coneF N f (N + 1 + k) = coneF N f (N + k + 1) by rw [show N + 1 + k = N + k + 1 by omega]]
              exact this
            have HSC := Lib.hid (HCT.out (coneF N f (N + 1 + k)) ((N + k + 1 : Nat) : Int))
            rw [← HN.out] at HSC
            unfold stepC at HSC
            rw [show (((N + k + 1 : Nat) : Int)).toNat = N + k + 1 by omega, show N + k + 1 - N - 1 = k by omega] at HSC
            obtain ⟨ax, cx, he, _, _, hx3⟩ := HPR.out wr (HCH.out _ _ _ hcp)
            injection he with he1 heA heB
            clear heA heB
            subst he1
            obtain ⟨b, off, ha, hbl, hcl⟩ := hx3.resolve_left (by rw [HM.out]; omega)
            subst ha
            have HPC : Hid (∀ W, Chg S w W → W.cell? ⟨b, off + k * 2, none⟩ = some (.int .i64 (ps.getD k (0, 0)).1) ∧ W.cell? ⟨b, off + k * 2 + 1, none⟩ = some (.int .i64 (ps.getD k (0, 0)).2)) := fun W hW => by
              obtain ⟨ay, cy, he2, _, _, hy3⟩ := HPR.out W hW
              injection he2 with he3 _ _
              subst he3
              obtain ⟨b', off', ha', _, hcl'⟩ := hy3.resolve_left (by rw [HM.out]; omega)
              injection ha' with ha'
              injection ha' with h1 h2
              subst h1; subst h2
              exact hcl' k (by rw [HM.out]; exact hlt2)
            obtain ⟨o1, o2, o3, o4⟩ := HOX.out k hlt2
            have HCP := Lib.hid hcp
            clear hf hcl hx3 hbl HST HN hcp
            generalize ps.getD k (0, 0) = xy at *
            obtain ⟨x, y⟩ := xy
            simp only at o1 o2 o3 o4 HSC HPC
            generalize copyC N ps g bys (coneF N f (N + 1 + k)) = s at *
            obtain ⟨gj, t⟩ := s
            simp only at HCP HSC
            have hgl := HI.out.len
            have hcl2 := HCL2.out
            have htl : t.length = K := (HI.out.by_).trans (by have := HKE.out; have := HM.out; omega)
            have hbdt : ∀ j, 0 ≤ t.getD j 0 ∧ t.getD j 0 < 20000 := fun j => by
              have := (isB_iff _ _).1 (HI.out.lit j)
              simp only at hgl this
              omega
            obtain ⟨X, hX⟩ : ∃ X : Nat, x / 2 = (X : Int) := ⟨(x / 2).toNat, by omega⟩
            obtain ⟨Y, hY⟩ : ∃ Y : Nat, y / 2 = (Y : Int) := ⟨(y / 2).toNat, by omega⟩
            have HLA := (isB_iff _ _).1 (renL_isB HI.out.lit x)
            have HLB2 := (isB_iff _ _).1 (renL_isB HI.out.lit y)
            simp only at hgl HLA HLB2
            have htx := hbdt X
            have hty := hbdt Y
            have hXl : X < N + k + 1 := by omega
            have hYl : Y < N + k + 1 := by omega
            have HTX := Lib.hid (fun W => turn_any (t.getD X 0) x W htx.1 (by omega) o1 (by omega))
            have HTY := Lib.hid (fun W => turn_any (t.getD Y 0) y W hty.1 (by omega) o2 (by omega))
            rw [← ren_turn t x X hX] at HTX
            rw [← ren_turn t y Y hY] at HTY
            have HTL := Lib.hid htl
            have HAN := Lib.hid (HCP.out.callAt HK.out ((Below.refl _ wr).drew) (fun S' hG' => rand_any wr.drew hG' (renL t x) (renL t y) ⟨by omega, by omega⟩ ⟨by omega, by omega⟩))
            generalize htx2 : t.getD X 0 = tx at *
            generalize hty2 : t.getD Y 0 = ty at *
            have HSS : Hid (∀ gn t' W, CpI (fun W S g => RgM W gv S g) w4 S q gn t' W → t'.length = K → t'.getD X 0 = tx → t'.getD Y 0 = ty → W.cell? ⟨w.heap.size, 0, none⟩ = some (.int .i64 (N : Int)) ∧ W.cell? ⟨w.heap.size, 1, none⟩ = some (.slice (some ⟨b, off, none⟩) m c1) ∧ W.cell? ⟨b, off + k * 2, none⟩ = some (.int .i64 x) ∧ W.cell? ⟨b, off + k * 2 + 1, none⟩ = some (.int .i64 y) ∧ W.cell? ⟨q, X, none⟩ = some (.int .i64 tx) ∧ W.cell? ⟨q, Y, none⟩ = some (.int .i64 ty)) := fun gn t' W h h1 h2 h3 => by
              have hb := HOB.out W h.chg
              have hp := HPC.out W (HCH.out _ _ _ h)
              exact ⟨hb.c0, hb.c1, hp.1, hp.2, by rw [← h2]; exact h.cel.cells X (by omega), by rw [← h3]; exact h.cel.cells Y (by omega)⟩
            have HS0 := Lib.hid (HSS.out _ _ _ HCP.out htl htx2 hty2)
            have HS0D : Hid (wr.drew.cell? ⟨w.heap.size, 0, none⟩ = some (.int .i64 (N : Int)) ∧ wr.drew.cell? ⟨w.heap.size, 1, none⟩ = some (.slice (some ⟨b, off, none⟩) m c1) ∧ wr.drew.cell? ⟨b, off + k * 2, none⟩ = some (.int .i64 x) ∧ wr.drew.cell? ⟨b, off + k * 2 + 1, none⟩ = some (.int .i64 y) ∧ wr.drew.cell? ⟨q, X, none⟩ = some (.int .i64 tx) ∧ wr.drew.cell? ⟨q, Y, none⟩ = some (.int .i64 ty)) := HS0.out
            have HSA : Hid (∀ (gn : Gr) (z : Int) (w5 : World), CpI (fun W S g => RgM W gv S g) w4 S q gn t w5 → (w5.cell? ⟨w.heap.size, 0, none⟩ = some (.int .i64 (N : Int)) ∧ w5.cell? ⟨w.heap.size, 1, none⟩ = some (.slice (some ⟨b, off, none⟩) m c1) ∧ w5.cell? ⟨b, off + k * 2, none⟩ = some (.int .i64 x) ∧ w5.cell? ⟨b, off + k * 2 + 1, none⟩ = some (.int .i64 y) ∧ w5.cell? ⟨q, X, none⟩ = some (.int .i64 tx) ∧ w5.cell? ⟨q, Y, none⟩ = some (.int .i64 ty)) ∧ ((w5.setCell ⟨q, N + k + 1, none⟩ (.int .i64 z)).cell? ⟨w.heap.size, 0, none⟩ = some (.int .i64 (N : Int)) ∧ (w5.setCell ⟨q, N + k + 1, none⟩ (.int .i64 z)).cell? ⟨w.heap.size, 1, none⟩ = some (.slice (some ⟨b, off, none⟩) m c1) ∧ (w5.setCell ⟨q, N + k + 1, none⟩ (.int .i64 z)).cell? ⟨b, off + k * 2, none⟩ = some (.int .i64 x) ∧ (w5.setCell ⟨q, N + k + 1, none⟩ (.int .i64 z)).cell? ⟨b, off + k * 2 + 1, none⟩ = some (.int .i64 y) ∧ (w5.setCell ⟨q, N + k + 1, none⟩ (.int .i64 z)).cell? ⟨q, X, none⟩ = some (.int .i64 tx) ∧ (w5.setCell ⟨q, N + k + 1, none⟩ (.int .i64 z)).cell? ⟨q, Y, none⟩ = some (.int .i64 ty)) ∧ w5.cell? ⟨q, N + k + 1, none⟩ = some (.int .i64 (t.getD (N + k + 1) 0)) ∧ w5.frozen? ⟨q, N + k + 1, none⟩ = false ∧ CpI (fun W S g => RgM W gv S g) w4 S q gn (t.set (N + k + 1) z) (w5.setCell ⟨q, N + k + 1, none⟩ (.int .i64 z))) := fun gn z w5 h5 => by
              have h6 := h5.set HK.out (N + k + 1) z
              refine ⟨HSS.out _ _ _ h5 htl htx2 hty2, HSS.out _ _ _ h6 (by rw [List.length_set]; exact htl) ?_ ?_, h5.cel.cells _ (by omega), h5.cel.free _, h6⟩
              · rw [getD_setI, if_neg (by omega)]; exact htx2
              · rw [getD_setI, if_neg (by omega)]; exact hty2
            clear htx2 hty2 hbdt HCP HLA HLB2 htl HSS HPC HI
            generalize renL t x = rx at *
            generalize renL t y = ry at *
            generalize andG gj rx ry = rr at *
            obtain ⟨gn, z⟩ := rr
            simp only at HAN HSC
            generalize t.getD (N + k + 1) 0 = told at *
            have i1 : (0 : Int) ≤ (X : Int) := Int.natCast_nonneg X
            have i2 : (X : Int) < (K : Int) := by omega
            have i3 : (0 : Int) ≤ (Y : Int) := Int.natCast_nonneg Y
            have i4 : (Y : Int) < (K : Int) := by omega
            have i5 : (0 : Int) ≤ (k : Int) := Int.natCast_nonneg k
            have i6 : (k : Int) < (m : Int) := by omega
            have w1X : IntKind.i64.wrap (X : Int) = (X : Int) := IntWalk.i64_in _ (by omega)
            have w1Y : IntKind.i64.wrap (Y : Int) = (Y : Int) := IntWalk.i64_in _ (by omega)
            have w2N : IntKind.i64.wrap ((N : Int) + (k : Int)) = (N : Int) + (k : Int) := IntWalk.i64_in _ (by omega)
            have w4N : IntKind.i64.wrap ((N : Int) + (k : Int) + 1) = (N : Int) + (k : Int) + 1 := IntWalk.i64_in _ (by omega)
            go_upto_region 12 with fail
            clear z0 z1 z2 zf zl y0
            obtain ⟨P, hP⟩ : ∃ P : Nat, P = N + k + 1 := ⟨_, rfl⟩
            have w3N : IntKind.i64.wrap ((N : Int) + (k : Int) + 1) = (P : Int) := by rw [w4N]; omega
            have w5P : IntKind.i64.wrap (P : Int) = (P : Int) := IntWalk.i64_in _ (by omega)
            have i7 : (0 : Int) ≤ (P : Int) := Int.natCast_nonneg P
            have i8 : (P : Int) < (K : Int) := by omega
            rw [← hP] at HSA HSC
            clear w4N hP
            go_region_held3 (fun W => W.cell? ⟨w.heap.size, 0, none⟩ = some (.int .i64 (N : Int)) ∧ W.cell? ⟨w.heap.size, 1, none⟩ = some (.slice (some ⟨b, off, none⟩) m c1) ∧ W.cell? ⟨b, off + k * 2, none⟩ = some (.int .i64 x) ∧ W.cell? ⟨b, off + k * 2 + 1, none⟩ = some (.int .i64 y) ∧ W.cell? ⟨q, X, none⟩ = some (.int .i64 tx) ∧ W.cell? ⟨q, Y, none⟩ = some (.int .i64 ty)) (first | (with_reducible exact HS0.out) | (with_reducible exact HS0D.out) | (with_reducible exact HP5.out) | (with_reducible exact HP6.out) | (exact HP6.out)) (first
              | (go_at_call_of 44 (Value.int IntKind.i64 tx); refine (HTX.out _).mono ?_; rintro e w' ⟨rfl, rfl⟩)
              | (go_at_call_of 44 (Value.int IntKind.i64 ty); refine (HTY.out _).mono ?_; rintro e w' ⟨rfl, rfl⟩)
              | (go_at_call 43; refine HAN.out.mono ?_; rintro e w5 ⟨rfl, hB5, hz5⟩; obtain ⟨h5a, h5b, s0, sf, h5c⟩ := HSA.out gn z w5 hB5; have HP5 := Lib.hid h5a; have HP6 := Lib.hid h5b; have HF6 := Lib.hid h5c; clear hB5 hz5 h5a h5b h5c))
            all_goals
              go_wp2_with fail
              go_roundw
            all_goals first
              | exact ⟨k + 1, by omega, by go_num, by rw [HSC.out]; exact HF6.out⟩
              | ((show _ < _); simp [intOf]; omega)
        · have hkm : m = k := by omega
          subst hkm
          have HE : Hid (coneF N f (N + 1 + m) = cone) := by unfold Hid; rw [show N + 1 + m = K by have := HKE.out; omega]; exact HCE.out
          rw [HE.out] at HI hcp
          have HCP := Lib.hid hcp
          have hL2 : L < K := by have := HKE.out; omega
          have htl : (copyC N ps g bys cone).2.length = K := HI.out.by_.trans (by have := HKE.out; have := HM.out; omega)
          have y1 := hcp.cel.cells L (by omega)
          have hb := (isB_iff _ _).1 (HI.out.lit L)
          have hgl := HI.out.len
          have hcl2 := HCL2.out
          rw [HE.out] at hcl2
          have HTL := Lib.hid (fun W => turn_any ((copyC N ps g bys cone).2.getD L 0) l W hb.1 (by omega) h0 (by have := HL62.out; omega))
          rw [← ren_turn _ l L hL] at HTL
          have HP := Lib.hid (HCP.out.post (HCB.out _ HBW4.out) (Nat.le_of_lt hwq) (renL (copyC N ps g bys cone).2 l))
          clear hcp HI htl hb hgl
          generalize (copyC N ps g bys cone).2.getD L 0 = tL at *
          go_wp2_with fail
          refine (HTL.out _).mono ?_
          rintro e w' ⟨rfl, rfl⟩
          go_wp2_with fail
          go_ret
          rw [HCV.out]
          exact HP.out
end Go.Proofs.YtdmhjpofinnpmaaDoor

namespace Go.Proofs.YtdmhjpofinnpmaaDoor
open Go.RowKit

theorem mod10_isB (y : Int) : (⟨4, [], 0⟩ : Gr).isB (y % 10) = true := by
  rw [isB_iff]
  unfold Gr.len
  simp only [List.length_nil]
  omega

set_option maxRecDepth 8000 in
set_option maxHeartbeats 4000000 in
theorem lawSy_out (A : Nat → Addr) (n0 : Int) (a2 : Option Addr) (c2 m2 : Nat) (a4 : Option Addr) (c4 m4 : Nat) (n lit : Int) (a3 : Option Addr) (c3 m3 : Nat) (w : World) (hS : Sents2 w A) (ho : 120 < m2 ∨ 20 < m4 ∨ 40 < m3 ∨ n0 < 0 ∨ 30 < n0) :
    Calls Tryd.prog 3 #[.int .i64 n0, .slice a2 m2 c2, .slice a4 m4 c4, .int .i64 n, .int .i64 lit, .slice a3 m3 c3] w fun e w' => e = .returned (.bool true) ∧ Below w.heap.size w w' := by
  have HF := Lib.hid (first10_any A w hS)
  clear hS
  by_cases d1 : 120 < m2
  · have d1' : decide (120 < m2) = true := decide_eq_true d1
    clear ho
    go_enter Tryd.func3, Tryd.ntmps3
    go_wp2_with fail
    refine HF.out.mono ?_
    rintro e w1 ⟨rfl, hb1⟩
    go_wp2_with fail
    go_ret
    exact ⟨rfl, hb1⟩
  have d1' : decide (120 < m2) = false := decide_eq_false d1
  by_cases d2 : 20 < m4
  · have d2' : decide (20 < m4) = true := decide_eq_true d2
    clear ho
    go_enter Tryd.func3, Tryd.ntmps3
    go_wp2_with fail
    refine HF.out.mono ?_
    rintro e w1 ⟨rfl, hb1⟩
    go_wp2_with fail
    go_ret
    exact ⟨rfl, hb1⟩
  have d2' : decide (20 < m4) = false := decide_eq_false d2
  by_cases d3 : 40 < m3
  · have d3' : decide (40 < m3) = true := decide_eq_true d3
    clear ho
    go_enter Tryd.func3, Tryd.ntmps3
    go_wp2_with fail
    refine HF.out.mono ?_
    rintro e w1 ⟨rfl, hb1⟩
    go_wp2_with fail
    go_ret
    exact ⟨rfl, hb1⟩
  have d3' : decide (40 < m3) = false := decide_eq_false d3
  by_cases d4 : n0 < 0
  · have d4' : decide (n0 < 0) = true := decide_eq_true d4
    clear ho
    go_enter Tryd.func3, Tryd.ntmps3
    go_wp2_with fail
    refine HF.out.mono ?_
    rintro e w1 ⟨rfl, hb1⟩
    go_wp2_with fail
    go_ret
    exact ⟨rfl, hb1⟩
  have d4' : decide (n0 < 0) = false := decide_eq_false d4
  have d5 : 30 < n0 := by omega
  have d5' : decide (30 < n0) = true := decide_eq_true d5
  clear ho
  go_enter Tryd.func3, Tryd.ntmps3
  go_wp2_with fail
  refine HF.out.mono ?_
  rintro e w1 ⟨rfl, hb1⟩
  go_wp2_with fail
  go_ret
  exact ⟨rfl, hb1⟩

set_option maxRecDepth 8000 in
set_option maxHeartbeats 16000000 in
theorem lawSy_any (A : Nat → Addr) (n0 : Int) (a2 : Option Addr) (c2 : Nat) (ls : List Int) (a4 : Option Addr) (c4 : Nat) (os0 : List Int) (n lit : Int) (a3 : Option Addr) (c3 : Nat) (ts : List Int) (w : World) (hS : Sents2 w A) (hl : RowAt w a2 c2 ls) (hlb : ∀ y ∈ ls, in64 y) (ho : RowAt w a4 c4 os0) (hob0 : ∀ y ∈ os0, in64 y) (hn : in64 n) (hlit : in64 lit) (ht : RowAt w a3 c3 ts) (htb : ∀ y ∈ ts, in64 y) :
    Calls Tryd.prog 3 #[.int .i64 n0, .slice a2 ls.length c2, .slice a4 os0.length c4, .int .i64 n, .int .i64 lit, .slice a3 ts.length c3] w fun e w' => e = .returned (.bool true) ∧ Below w.heap.size w w' := by
  by_cases hout : 120 < ls.length ∨ 20 < os0.length ∨ 40 < ts.length ∨ n0 < 0 ∨ 30 < n0
  · exact lawSy_out A n0 a2 c2 ls.length a4 c4 os0.length n lit a3 c3 ts.length w hS hout
  have e1 : ¬ 120 < ls.length := by omega
  have e2 : ¬ 20 < os0.length := by omega
  have e3 : ¬ 40 < ts.length := by omega
  have d1 : decide (120 < ls.length) = false := decide_eq_false e1
  have d2 : decide (20 < os0.length) = false := decide_eq_false e2
  have d3 : decide (40 < ts.length) = false := decide_eq_false e3
  obtain ⟨N, rfl⟩ : ∃ N : Nat, n0 = (N : Int) := ⟨n0.toNat, by omega⟩
  have hN : N ≤ 30 := by omega
  have d4 : decide ((N : Int) < 0) = false := decide_eq_false (by omega)
  have d5 : decide (30 < (N : Int)) = false := decide_eq_false (by omega)
  have d5' : decide (30 < N) = false := decide_eq_false (by omega)
  clear hout
  have HF := Lib.hid (first10_any A w hS)
  have HS := Lib.hid (fun W (hW : Below w.heap.size w W) => hS.keep hW)
  have HMK := Lib.hid (fun W (hW : Below w.heap.size w W) => mkc_any N (.slice a2 ls.length c2) (.slice a4 os0.length c4) ls os0 W ⟨_, _, rfl, hl.keep hW⟩ ⟨_, _, rfl, ho.keep hW⟩ (by omega) (by omega) (by omega) hlb hob0)
  have HVAL := Lib.hid (fun W => values_any n N W hn.1 hn.2 (by omega))
  have HL : Hid (ls.length ≤ 120 ∧ os0.length ≤ 20 ∧ ts.length ≤ 40) := by unfold Hid; omega
  have HT := Lib.hid (fun W (hW : Below w.heap.size w W) => ht.keep hW)
  have HTB : Hid (∀ k, k < ts.length → in64 (ts.getD k 0)) := fun k hk => htb _ (by simp [List.getD, hk])
  have HNEW := Lib.hid (fun W => gnew_any A 4 W (by omega) (by omega))
  have HRNW := Lib.hid (fun W => rnew_any 4 W (by omega) (by omega))
  clear hS hl hlb ho hob0 hn ht htb
  generalize ls.length = m2 at *
  generalize os0.length = m4 at *
  generalize hm3 : ts.length = m3 at *
  have HM3 := Lib.hid hm3
  clear hm3
  go_enter Tryd.func3, Tryd.ntmps3
  go_wp2_with fail
  refine HF.out.mono ?_
  rintro e w1 ⟨rfl, hb1⟩
  have HM := Lib.hid (HMK.out _ hb1)
  have HB1 := Lib.hid hb1
  clear hb1 HF HMK
  go_wp2_with fail
  refine HM.out.mono ?_
  rintro e w5 ⟨⟨u', v', ps', os', rfl, hu', hv', hck, hpl, hol, hpb, hob⟩, hb5⟩
  have HB5 := Lib.hid (HB1.out.trans (hb5.mono HB1.out.size))
  clear hb5 HM HB1
  have hnm := (check_zero8 hck).1
  obtain ⟨au5, cu5, rfl, hu1, hu2, hu3⟩ := id hu'
  obtain ⟨av5, cv5, rfl, _⟩ := id hv'
  unfold maxLen at hu2
  have hm120 : ps'.length ≤ 120 := Nat.le_trans hpl HL.out.1
  have ho20 : os'.length ≤ 20 := by have := HL.out.2.1; omega
  have NL := Lib.hid (fun W => number_any lit (2 * ((N : Int) + (ps'.length : Int)) + 2) W (by omega) (by omega) hlit.1 hlit.2)
  have hl0 := Int.emod_nonneg lit (show 2 * ((N : Int) + (ps'.length : Int)) + 2 ≠ 0 by omega)
  have hl1 := Int.emod_lt_of_pos lit (show (0 : Int) < 2 * ((N : Int) + (ps'.length : Int)) + 2 by omega)
  generalize lit % (2 * ((N : Int) + (ps'.length : Int)) + 2) = l at *
  have hL : l / 2 = ((l / 2).toNat : Int) := by omega
  have hLN : (l / 2).toNat ≤ N + ps'.length := by omega
  have HSW := Lib.hid (fun W (hW : Below w5.heap.size w5 W) => HS.out W (HB5.out.trans (hW.mono HB5.out.size)))
  have HU := Lib.hid (fun W (hW : Below w5.heap.size w5 W) => hu'.keep hW)
  have HV := Lib.hid (fun W (hW : Below w5.heap.size w5 W) => hv'.keep hW)
  have HN1 := Lib.hid (fun W (hW : Below w5.heap.size w5 W) q xs (hq : BRow W q xs) (hx : xs.length ≤ 1000) => lnodes_any A N _ _ q ps' os' xs W (HSW.out W hW) (HU.out W hW) (HV.out W hW) (by omega) hob hq hx hck)
  have HN2 := Lib.hid (fun W (hW : Below w5.heap.size w5 W) q xs (hq : BRow W q xs) (hx : xs.length ≤ 1000) => nodes_any N _ _ q ps' os' xs W (HU.out W hW) (HV.out W hW) hq hx hck)
  have HE1 := Lib.hid (fun W (hW : Below w5.heap.size w5 W) q xs (hq : BRow W q xs) (hx : xs.length ≤ 1000) => leval_any A N _ _ q ps' os' xs W (HSW.out W hW) (HU.out W hW) (HV.out W hW) (by omega) hob hq hx hck)
  have HE2 := Lib.hid (fun W (hW : Below w5.heap.size w5 W) q xs (hq : BRow W q xs) (hx : xs.length ≤ 1000) => eval_any N _ _ q ps' os' xs W (HU.out W hW) (HV.out W hW) hq hx (by omega) hck)
  have HP1 := Lib.hid (fun W (hW : Below w5.heap.size w5 W) => lsupp_any A N _ _ ps' os' l _ W (HSW.out W hW) (HU.out W hW) (HV.out W hW) (by omega) hob hck hl0 hL hLN)
  have HP2 := Lib.hid (fun W (hW : Below w5.heap.size w5 W) => rsupp_any N _ _ ps' os' l _ W (HU.out W hW) (HV.out W hW) hck hl0 hL hLN)
  have HC1 := Lib.hid (fun W (hW : Below w5.heap.size w5 W) => lcone_any A N _ _ ps' os' l _ W (HSW.out W hW) (HU.out W hW) (HV.out W hW) (by omega) hob hck hl0 hL hLN)
  have HC2 := Lib.hid (fun W (hW : Below w5.heap.size w5 W) => rcone_any N _ _ ps' os' l _ W (HU.out W hW) (HV.out W hW) hck hl0 hL hLN)
  have HD1 := Lib.hid (fun W (hW : Below w5.heap.size w5 W) => ldepth_any A N _ _ ps' os' W (HSW.out W hW) (HU.out W hW) (HV.out W hW) (by omega) hob hck)
  have HD2 := Lib.hid (fun W (hW : Below w5.heap.size w5 W) => rdepth_any N _ _ ps' os' W (HU.out W hW) (HV.out W hW) (by omega) hck)
  have HLC := Lib.hid (fun (W : World) (S : List Nat) (gv byv : Value) (bys : List Int) (hG : GrM W A gv S ⟨4, [], 0⟩) (hB : ∀ W', Chg S W W' → Below w5.heap.size w5 W' ∧ Row W' byv bys) (hbl : ∀ b ∈ bys, (⟨4, [], 0⟩ : Gr).isB b = true) (hbn : bys.length ≤ 1000) => lcopy_any A N (.slice au5 ps'.length cu5) (.slice av5 os'.length cv5) gv byv ps' os' bys l _ W S ⟨4, [], 0⟩ hG (fun W' h => ⟨HSW.out W' (hB W' h).1, HU.out W' (hB W' h).1, HV.out W' (hB W' h).1, (hB W' h).2⟩) (by omega) hob hck hl0 hL hLN hbl (by show 4 + 0 + N + ps'.length + 1 ≤ 8000; omega) hbn)
  have HRC := Lib.hid (fun (W : World) (S : List Nat) (gv byv : Value) (bys : List Int) (hG : RgM W gv S ⟨4, [], 0⟩) (hB : ∀ W', Chg S W W' → Below w5.heap.size w5 W' ∧ Row W' byv bys) (hbl : ∀ b ∈ bys, (⟨4, [], 0⟩ : Gr).isB b = true) (hbn : bys.length ≤ 1000) => rcopy_any N (.slice au5 ps'.length cu5) (.slice av5 os'.length cv5) gv byv ps' os' bys l _ W S ⟨4, [], 0⟩ hG (fun W' h => ⟨HU.out W' (hB W' h).1, HV.out W' (hB W' h).1, (hB W' h).2⟩) hck hl0 hL hLN hbl (by show 4 + 0 + N + ps'.length + 1 ≤ 8000; omega) hbn)
  have HC5 := Lib.hid (CV.new w5 (N : Int) (.slice au5 ps'.length cu5) (.slice av5 os'.length cv5) 26)
  have HA5 : Hid (Below w5.heap.size w5 (w5.alloc (.cells #[.int .i64 (N : Int), .slice au5 ps'.length cu5, .slice av5 os'.length cv5] 26))) := (Below.refl _ _).alloc (Nat.le_refl _) _
  clear hck hpb hob hu3 hol hu' hv' hpl hL hLN HU HV HSW hnm
  unfold circV at *
  generalize os'.length = m6 at *
  generalize ps'.length = m5 at *
  obtain ⟨z0, z1, z2, zf, zl⟩ := HC5.out
  go_wp2_with fail
  generalize w5.alloc (.cells #[.int .i64 (N : Int), .slice au5 m5 cu5, .slice av5 m6 cv5] 26) = w6 at *
  clear z0 z1 z2 zf zl
  refine (HVAL.out _).mono ?_
  rintro e w7 ⟨zv, ins, rfl, hz, hb7⟩
  have hil : ins.length = N := by have := hz.1; simpa using this
  have HB7 := Lib.hid (bb_step HA5.out hb7)
  have HC7 := Lib.hid (HC5.out.keep hb7)
  obtain ⟨az, cz, rfl, hcz, _⟩ := own_shape hz
  have HZ := Lib.hid hz
  clear hz hb7 HVAL HC5 HA5
  go_upto_region 8 with fail
  obtain ⟨bb, hbb⟩ : ∃ bb : Bool, bb = ((bits .and .i64 n 7 == 7) && decide (0 < N)) := ⟨_, rfl⟩
  have HBB := Lib.hid hbb
  clear hbb
  go_cut [60] (fun z W => W = w7 ∧ z = .bool bb)
  case first =>
    rcases Bool.eq_false_or_eq_true (bits .and .i64 n 7 == 7) with hb | hb
    · rcases Nat.eq_zero_or_pos N with h0 | h0
      · have p1 : decide ((0 : Int) < (N : Int)) = false := decide_eq_false (by omega)
        have p2 : decide (0 < N) = false := decide_eq_false (by omega)
        have HE : Hid (Value.bool false = .bool bb) := by unfold Hid; rw [HBB.out, p2, Bool.and_false]
        clear h0
        go_wp2_with fail
        go_meet
        exact ⟨rfl, HE.out⟩
      · have p1 : decide ((0 : Int) < (N : Int)) = true := decide_eq_true (by omega)
        have p2 : decide (0 < N) = true := decide_eq_true (by omega)
        have HE : Hid (Value.bool true = .bool bb) := by unfold Hid; rw [HBB.out, p2, hb]; rfl
        go_wp2_with fail
        go_meet
        exact ⟨rfl, HE.out⟩
    · have HE : Hid (Value.bool false = .bool bb) := by unfold Hid; rw [HBB.out, hb, Bool.false_and]
      go_wp2_with fail
      go_meet
      exact ⟨rfl, HE.out⟩
  case' rest =>
    obtain ⟨rfl, rfl⟩ := hcut
    obtain ⟨w7, rfl⟩ : ∃ w7 : World, w7 = wc := ⟨_, rfl⟩
    have hbt : bb = true → 0 < N := fun h => by
      have := HBB.out
      rw [h] at this
      have h2 := this.symm
      rw [Bool.and_eq_true] at h2
      exact of_decide_eq_true h2.2
    have HBT0 := Lib.hid hbt
    clear hbt
    go_upto_if 60 with fail
    go_cut [15] (fun z W => W = w7 ∧ ∃ a c, ∃ xs : List Bool, z = .slice a xs.length c ∧ xs.length ≤ 30 ∧ BRow w7 (.slice a xs.length c) xs)
  case first =>
    have hr : BRow w7 (.slice az N cz) ins := own_rowG (mk := Value.bool) (d := false) HZ.out
    have HR : Hid (∃ a c, ∃ xs : List Bool, Value.slice az N cz = .slice a xs.length c ∧ xs.length ≤ 30 ∧ BRow w7 (.slice a xs.length c) xs) := ⟨az, cz, ins, by rw [hil], by omega, by rw [hil]; exact hr⟩
    clear hr
    rcases Bool.eq_false_or_eq_true bb with hb | hb
    · have h0 := HBT0.out hb
      obtain ⟨M, hM⟩ : ∃ M : Nat, M + 1 = N := ⟨N - 1, by omega⟩
      have HR2 : Hid (∃ a c, ∃ xs : List Bool, Value.slice az M cz = .slice a xs.length c ∧ xs.length ≤ 30 ∧ BRow w7 (.slice a xs.length c) xs) := by
        have h := HZ.out
        obtain ⟨g, c, e, _, _, _, _⟩ := own_some h h0
        injection e with e1 _ e3
        subst e1
        have ht : (ins.take M).length = M := by rw [List.length_take]; omega
        have h2 := own_less (n := M) (m := 1) (xs := (ins.take M).map Value.bool) (ys := (ins.drop M).map Value.bool) (by rw [← List.map_append, List.take_append_drop, hM]; exact h) (by rw [List.length_map, ht])
        exact ⟨some ⟨g, 0, none⟩, cz, ins.take M, by rw [ht], by omega, by rw [ht]; exact own_rowG (mk := Value.bool) (d := false) h2⟩
      have hwM : IntKind.i64.wrap ((N : Int) - 1) = (M : Int) := by rw [IntWalk.i64_in _ (by omega)]; omega
      have hwM2 : IntKind.i64.wrap (M : Int) = (M : Int) := IntWalk.i64_in _ (by omega)
      have i1 : (0 : Int) ≤ (M : Int) := Int.natCast_nonneg M
      have i2 : (M : Int) ≤ (cz : Int) := by omega
      have i3 : M ≤ cz := by omega
      clear hM
      subst hb
      go_wp2_with fail
      go_meet
      exact ⟨rfl, HR2.out⟩
    · subst hb
      go_wp2_with fail
      go_meet
      exact ⟨rfl, HR.out⟩
  case rest =>
    obtain ⟨rfl, ax, cx, xs, rfl, hxl, hxr⟩ := hcut
    obtain ⟨w8, rfl⟩ : ∃ w8 : World, w8 = wc := ⟨_, rfl⟩
    have HQ : Hid (∀ W, Below w8.heap.size w8 W → (W.cell? ⟨w5.heap.size, 0, none⟩ = some (.int .i64 (N : Int)) ∧ W.cell? ⟨w5.heap.size, 1, none⟩ = some (.slice au5 m5 cu5) ∧ W.cell? ⟨w5.heap.size, 2, none⟩ = some (.slice av5 m6 cv5)) ∧ Below w5.heap.size w5 W ∧ BRow W (.slice ax xs.length cx) xs) := fun W hW =>
      ⟨⟨(HC7.out.keep hW).c0, (HC7.out.keep hW).c1, (HC7.out.keep hW).c2⟩, bb_step HB7.out hW, hxr.keep hW⟩
    have HN1 := Lib.hid (fun W (hW : Below w8.heap.size w8 W) => HN1.out W (HQ.out W hW).2.1 _ xs (HQ.out W hW).2.2 (by omega))
    have HN2 := Lib.hid (fun W (hW : Below w8.heap.size w8 W) => HN2.out W (HQ.out W hW).2.1 _ xs (HQ.out W hW).2.2 (by omega))
    have HE1 := Lib.hid (fun W (hW : Below w8.heap.size w8 W) => HE1.out W (HQ.out W hW).2.1 _ xs (HQ.out W hW).2.2 (by omega))
    have HE2 := Lib.hid (fun W (hW : Below w8.heap.size w8 W) => HE2.out W (HQ.out W hW).2.1 _ xs (HQ.out W hW).2.2 (by omega))
    clear hxr HC7 HB7 HZ
    generalize xs.length = xl at *
    obtain ⟨⟨z0, z1, z2⟩, _, _⟩ := HQ.out _ (Below.refl _ _)
    go_wp2_with fail
    refine (NL.out _).mono ?_
    rintro e w' ⟨rfl, rfl⟩
    go_upto_region 11 with fail
    clear z0 z1 z2 NL
    generalize nodesV N ps' xs = nv at *
    generalize evalV N ps' os' xs = ev at *
    generalize suppL N ps' (l / 2).toNat = sl at *
    generalize coneL N ps' (l / 2).toNat = cl at *
    generalize depthV N ps' os' = dv at *
    have HSB := Lib.hid (fun W v1 v2 ys h1 h2 => sameBools_yes v1 v2 ys W h1 h2)
    have HSI := Lib.hid (fun W v1 v2 ys h1 h2 => sameInts_yes v1 v2 ys ys W h1 h2 rfl)
    have hdv : (dv != dv) = false := by simp
    go_cut [118] (fun z W => z = .bool false ∧ Below w8.heap.size w8 W)
    case first =>
      have hV : Below w8.heap.size w8 w8.drew := (Below.refl _ _).drew
      go_region_held3 (fun W => W.cell? ⟨w5.heap.size, 0, none⟩ = some (.int .i64 (N : Int)) ∧ W.cell? ⟨w5.heap.size, 1, none⟩ = some (.slice au5 m5 cu5) ∧ W.cell? ⟨w5.heap.size, 2, none⟩ = some (.slice av5 m6 cv5)) (exact (HQ.out _ hV).1) (first
        | (go_at_call 12; refine (HN1.out _ hV).mono ?_; rintro e W1 ⟨y1, rfl, hy1, hb1⟩; have HR1 := Lib.hid (own_rowG (mk := Value.bool) (d := false) hy1); replace hV := bb_step hV hb1; obtain ⟨a1, c1, rfl, _, _⟩ := own_shape hy1; clear hy1 hb1)
        | (go_at_call 13; refine (HN2.out _ hV).mono ?_; rintro e W2 ⟨y2, rfl, hy2, hb2⟩; have HR2 := Lib.hid (HSB.out W2 _ _ _ (RowG.keep HR1.out hb2) (own_rowG (mk := Value.bool) (d := false) hy2)); replace hV := bb_step hV hb2; obtain ⟨a2, c2, rfl, _, _⟩ := own_shape hy2; clear hy2 hb2 HR1)
        | (go_at_call 11; refine HR2.out.mono ?_; rintro e W3 ⟨rfl, hb3⟩; replace hV := bb_step hV hb3; clear hb3 HR2)
        | (go_at_call 14; refine (HE1.out _ hV).mono ?_; rintro e W1 ⟨y1, rfl, hy1, hb1⟩; have HR1 := Lib.hid (own_rowG (mk := Value.bool) (d := false) hy1); replace hV := bb_step hV hb1; obtain ⟨a1, c1, rfl, _, _⟩ := own_shape hy1; clear hy1 hb1)
        | (go_at_call 15; refine (HE2.out _ hV).mono ?_; rintro e W2 ⟨y2, rfl, hy2, hb2⟩; have HR2 := Lib.hid (HSB.out W2 _ _ _ (RowG.keep HR1.out hb2) (own_rowG (mk := Value.bool) (d := false) hy2)); replace hV := bb_step hV hb2; obtain ⟨a2, c2, rfl, _, _⟩ := own_shape hy2; clear hy2 hb2 HR1)
        | (go_at_call 17; refine (HP1.out _ (HQ.out _ hV).2.1).mono ?_; rintro e W1 ⟨⟨y1, rfl, hy1⟩, hb1⟩; have HR1 := Lib.hid (own_row hy1); replace hV := bb_step hV hb1; obtain ⟨a1, c1, rfl, _, _⟩ := own_shape hy1; clear hy1 hb1)
        | (go_at_call 18; refine (HP2.out _ (HQ.out _ hV).2.1).mono ?_; rintro e W2 ⟨⟨y2, rfl, hy2⟩, hb2⟩; have HR2 := Lib.hid (HSI.out W2 _ _ _ (Row.keep HR1.out hb2) (own_row hy2)); replace hV := bb_step hV hb2; obtain ⟨a2, c2, rfl, _, _⟩ := own_shape hy2; clear hy2 hb2 HR1)
        | (go_at_call 19; refine (HC1.out _ (HQ.out _ hV).2.1).mono ?_; rintro e W1 ⟨⟨y1, rfl, hy1⟩, hb1⟩; have HR1 := Lib.hid (own_row hy1); replace hV := bb_step hV hb1; obtain ⟨a1, c1, rfl, _, _⟩ := own_shape hy1; clear hy1 hb1)
        | (go_at_call 20; refine (HC2.out _ (HQ.out _ hV).2.1).mono ?_; rintro e W2 ⟨⟨y2, rfl, hy2⟩, hb2⟩; have HR2 := Lib.hid (HSI.out W2 _ _ _ (Row.keep HR1.out hb2) (own_row hy2)); replace hV := bb_step hV hb2; obtain ⟨a2, c2, rfl, _, _⟩ := own_shape hy2; clear hy2 hb2 HR1)
        | (go_at_call 16; refine HR2.out.mono ?_; rintro e W3 ⟨rfl, hb3⟩; replace hV := bb_step hV hb3; clear hb3 HR2)
        | (go_at_call 21; refine (HD1.out _ (HQ.out _ hV).2.1).mono ?_; rintro e W1 ⟨rfl, hb1⟩; replace hV := bb_step hV hb1; clear hb1)
        | (go_at_call 22; refine (HD2.out _ (HQ.out _ hV).2.1).mono ?_; rintro e W2 ⟨rfl, hb2⟩; replace hV := bb_step hV hb2; clear hb2))
      all_goals
        go_wp2_with fail
        go_meet
        exact ⟨rfl, hV⟩
    case rest =>
      obtain ⟨rfl, hV⟩ := hcut
      obtain ⟨wx, rfl⟩ : ∃ wx : World, wx = wc := ⟨_, rfl⟩
      clear HN1 HN2 HE1 HE2 HP1 HP2 HC1 HC2 HD1 HD2 HSB HSI hdv
      have HVX := Lib.hid hV
      clear hV
      go_wp2_with fail
      refine (HNEW.out _).mono ?_
      rintro e w9 ⟨⟨gv, S, rfl, hG, hSn⟩, hb9⟩
      obtain ⟨gp, rfl⟩ : ∃ p, gv = .pointer (some ⟨p, 0, none⟩) := by obtain ⟨p, m, u, N, D, h⟩ := hG; exact ⟨p, h.val⟩
      rw [show newG 4 = ⟨4, [], 0⟩ from rfl] at hG
      have HSL := Lib.hid (fun i (hi : i ∈ S) => (grKind A _).lt hG i hi)
      have HG9 := Lib.hid hG
      have HB9 := Lib.hid hb9
      have HSN := Lib.hid hSn
      clear hG hb9 hSn HNEW
      go_wp2_with fail
      refine (HRNW.out _).mono ?_
      rintro e w10 ⟨⟨xv, T, rfl, hR, hTn⟩, hb10⟩
      obtain ⟨xp, rfl⟩ : ∃ p, xv = .pointer (some ⟨p, 0, none⟩) := by obtain ⟨p, u, h⟩ := hR; exact ⟨p, h.val⟩
      rw [show newG 4 = ⟨4, [], 0⟩ from rfl] at hR
      have HTL := Lib.hid (fun i (hi : i ∈ T) => (rgKind _).lt hR i hi)
      have HTN := Lib.hid (fun i (hi : i ∈ T) => Nat.le_trans HB9.out.size (hTn i hi))
      have HDJ : Hid (∀ i ∈ S, i ∉ T) := fun i hi hm => absurd (HSL.out i hi) (Nat.not_lt.2 (hTn i hm))
      have HSL2 : Hid (∀ i ∈ S, i < w10.heap.size) := fun i hi => Nat.lt_of_lt_of_le (HSL.out i hi) hb10.size
      have HG10 := Lib.hid (HG9.out.below hb10)
      have HR10 := Lib.hid hR
      have HB10 := Lib.hid (bb_step HB9.out hb10)
      clear hR hTn hb10 HG9 HB9 HSL HRNW
      obtain ⟨bl, hbl⟩ : ∃ bl : List Int, bl = ts.map (· % 10) := ⟨_, rfl⟩
      have HBLL : Hid (bl.length = m3) := by unfold Hid; rw [hbl, List.length_map, HM3.out]
      have HBG : Hid (∀ k, k < m3 → bl.getD k 0 = ts.getD k 0 % 10) := fun k hk => by
        rw [hbl]; simp [List.getD, show k < ts.length by rw [HM3.out]; omega]
      have HBS : Hid (∀ k, k < m3 → (bl.take (k + 1)).map (Value.int .i64) = (bl.take k).map (Value.int .i64) ++ [.int .i64 (ts.getD k 0 % 10)]) := fun k hk => by
        rw [map_take_succ _ _ 0 k (by rw [HBLL.out]; exact hk), HBG.out k hk]
      have HBI : Hid (∀ b ∈ bl, (⟨4, [], 0⟩ : Gr).isB b = true) := fun b hb => by
        rw [hbl] at hb
        obtain ⟨y, _, rfl⟩ := List.mem_map.1 hb
        exact mod10_isB y
      have HBE : Hid (bl.take m3 = bl) := by unfold Hid; rw [← HBLL.out]; exact List.take_length
      clear hbl
      have HB5X : Hid (∀ W, Below wx.heap.size wx W → Below w5.heap.size w5 W) := fun W hW => (HQ.out W (bb_step HVX.out hW)).2.1
      have HBT : Hid (∀ W, Below w10.heap.size w10 W → RowAt W a3 c3 ts) := fun W hW => HT.out W (HB5.out.trans ((HB5X.out W (bb_step HB10.out hW)).mono HB5.out.size))
      go_wp2_with fail
      go_loopw [19, 18] (fun i u wr => ∃ k : Nat, k ≤ m3 ∧ i = .int .i64 (k : Int) ∧ wr.ownsRow w10.heap.size 3 1 u k ((bl.take k).map (Value.int .i64)) ∧ Below w10.heap.size w10 wr) (fun i _ _ => m3 - (intOf i).toNat)
      case atStart => exact ⟨0, Nat.zero_le _, rfl, World.ownsRow_nil _ _ _ _, Below.refl _ _⟩
      case round =>
        obtain ⟨k, hk, rfl, hu, hbr⟩ := hrel
        obtain ⟨ab, cb, rfl, _, hcb⟩ := own_shape hu
        unfold maxLen at hcb
        have hsz := hbr.size
        by_cases hlt : k < m3
        · obtain ⟨_, _, ht3⟩ := HBT.out wr hbr
          obtain ⟨b, off, ha, hbl, hcl⟩ := ht3.resolve_left (by rw [HM3.out]; omega)
          subst ha
          have y0 := hcl k (by rw [HM3.out]; omega)
          have hy64 := HTB.out k (by omega)
          have HS1 := Lib.hid (HBS.out k hlt)
          have HNN := Lib.hid (number_any (ts.getD k 0) 10 wr (by omega) (by omega) hy64.1 hy64.2)
          have HBR := Lib.hid hbr
          clear hcl ht3 hy64 hbl hbr
          generalize ts.getD k 0 % 10 = kk at *
          generalize ts.getD k 0 = yy at *
          go_wp2_with fail
          refine HNN.out.mono ?_
          rintro e w' ⟨rfl, rfl⟩
          go_wp2_with (first
            | (at_builtin; refine wpList_app1 rfl (.tmp 129) (.tmp 135) rfl wr w10.heap.size _ k (bl.take k) kk hu hsz (by omega) rfl rfl ?_; intro u' w11 hown11 hap11))
          go_roundw
          case rel => exact ⟨k + 1, by omega, by go_num, by rw [HS1.out]; rw [List.map_append] at hown11; exact hown11, HBR.out.trans hap11.below⟩
          case measure => simp [intOf]; omega
        · have hkm : m3 = k := by omega
          subst hkm
          rw [HBE.out] at hu
          have HUO := Lib.hid hu
          have HB0 := Lib.hid (bb_step HB10.out hbr)
          have HGR := Lib.hid (HG10.out.below hbr)
          have HRR := Lib.hid (HR10.out.below hbr)
          have HNT : Hid (∀ k, (Value.slice ab m3 cb).ownBlock = some k → w10.heap.size ≤ k) := fun k hk => (HUO.out.lt k hk).1
          have HSZ : Hid (w10.heap.size ≤ wr.heap.size) := hsz
          have HCOP := Lib.hid (HLC.out wr S _ _ bl HGR.out (fun W hW => ⟨HB5X.out W (hW.below HB0.out HB0.out.size (fun i hi => HSN.out i hi)), own_row (own_chg HUO.out hW (fun k hk hm => absurd (HSL2.out k hm) (Nat.not_lt.2 (HNT.out k hk))))⟩) HBI.out (by rw [HBLL.out]; have := HL.out; omega))
          obtain ⟨⟨z0, z1, z2⟩, _, _⟩ := HQ.out _ (bb_step HVX.out HB0.out)
          clear hu hbr
          go_wp2_with fail
          refine HCOP.out.mono ?_
          rintro e w11 ⟨rfl, ⟨S', hG', hF'⟩, hC'⟩
          have HB11 := Lib.hid (hC'.below HB0.out HB0.out.size (fun i hi => HSN.out i hi))
          have HU11 := Lib.hid (own_chg HUO.out hC' (fun k hk hm => absurd (HSL2.out k hm) (Nat.not_lt.2 (HNT.out k hk))))
          have HR11 := Lib.hid (HRR.out.keep hC' (fun i hi hm => HDJ.out i hm hi))
          have HG11 := Lib.hid hG'
          have HDJ2 : Hid (∀ i ∈ S', i ∉ T) := fun i hi hm => (hF' i hi).elim (fun h => HDJ.out i h hm) (fun h => absurd (Nat.lt_of_lt_of_le (HTL.out i hm) HSZ.out) (Nat.not_lt.2 h))
          have HCO2 := Lib.hid (HRC.out w11 T _ _ bl HR11.out (fun W hW => ⟨HB5X.out W (hW.below HB11.out HB11.out.size (fun i hi => HTN.out i hi)), own_row (own_chg HU11.out hW (fun k hk hm => absurd (HTL.out k hm) (Nat.not_lt.2 (HNT.out k hk))))⟩) HBI.out (by rw [HBLL.out]; have := HL.out; omega))
          clear z0 z1 z2 hG' hF' hC' HCOP
          obtain ⟨⟨z0, z1, z2⟩, _, _⟩ := HQ.out _ (bb_step HVX.out HB11.out)
          go_wp2_with fail
          refine HCO2.out.mono ?_
          rintro e w12 ⟨rfl, ⟨T', hR', hF2⟩, hC2⟩
          have HB12 := Lib.hid (hC2.below HB11.out HB11.out.size (fun i hi => HTN.out i hi))
          have HG12 := Lib.hid (HG11.out.keep hC2 HDJ2.out)
          have HR12 := Lib.hid hR'
          clear z0 z1 z2 hR' hF2 hC2 HCO2
          generalize copyV N ps' ⟨4, [], 0⟩ bl l = r at *
          obtain ⟨gr, x⟩ := r
          simp only at HG12 HR12 ⊢
          have hxx : (x == x) = true := by simp
          have HA12 : Hid (Below w12.heap.size w12 (w12.alloc (.cells #[.int .i64 x] 3))) := (Below.refl _ _).alloc (Nat.le_refl _) _
          have HX12 : Hid (Row (w12.alloc (.cells #[.int .i64 x] 3)) (.slice (some ⟨w12.heap.size, 0, none⟩) 1 1) [x]) := row_lit w12 [x] (by simp)
          have HCI := Lib.hid (gcirc_any _ (HG12.out.below HA12.out) _ [x] HX12.out (by simp))
          unfold CirPost circV at HCI
          simp only [List.length_singleton] at HCI
          go_wp2_with fail
          refine HCI.out.mono ?_
          rintro e w15 ⟨⟨u9, v9, rfl, hu9, hv9⟩, hb15⟩
          have HB15 := Lib.hid (bb_step HA12.out hb15)
          have HPU := Lib.hid (own_prow hu9)
          have HPV := Lib.hid (own_row hv9)
          have HA15 : Hid (Below w15.heap.size w15 (w15.alloc (.cells #[.int .i64 x] 3))) := (Below.refl _ _).alloc (Nat.le_refl _) _
          have HX15 : Hid (Row (w15.alloc (.cells #[.int .i64 x] 3)) (.slice (some ⟨w15.heap.size, 0, none⟩) 1 1) [x]) := row_lit w15 [x] (by simp)
          have HRI := Lib.hid (rcirc_any _ (HR12.out.below (bb_step HB15.out HA15.out)) _ [x] HX15.out (by simp))
          unfold CirPost circV at HRI
          simp only [List.length_singleton] at HRI
          obtain ⟨a9, c9, rfl, _, _⟩ := row_shape hu9
          obtain ⟨b9, d9, rfl, _, _⟩ := own_shape hv9
          clear hu9 hv9 hb15 HCI
          go_wp2_with fail
          refine HRI.out.mono ?_
          rintro e w17 ⟨⟨u8, v8, rfl, hu8, hv8⟩, hb17⟩
          have HB17 := Lib.hid (bb_step HA15.out hb17)
          have HSC := Lib.hid (sameCir_yes (gr.n : Int) _ _ u8 v8 gr.ands [x] w17 (HPU.out.keep HB17.out) (HPV.out.keep HB17.out) (own_prow hu8) (own_row hv8))
          unfold circV at HSC
          have HE17 : Hid (Below w.heap.size w w17) := HB5.out.trans ((HB5X.out _ (bb_step HB12.out (bb_step HB15.out HB17.out))).mono HB5.out.size)
          obtain ⟨a8, c8, rfl, _, _⟩ := row_shape hu8
          obtain ⟨b8, d8, rfl, _, _⟩ := own_shape hv8
          clear hu8 hv8 hb17 HRI
          go_wp2_with fail
          refine HSC.out.mono ?_
          rintro e w18 ⟨rfl, hb18⟩
          go_wp2_with fail
          go_ret
          exact ⟨rfl, HE17.out.trans (hb18.mono HE17.out.size)⟩
end Go.Proofs.YtdmhjpofinnpmaaDoor
