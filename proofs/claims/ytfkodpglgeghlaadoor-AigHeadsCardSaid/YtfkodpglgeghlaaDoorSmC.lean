/- Contracts of skolemref.SamePairs, SameCircuit: whether they are the same. Conditions: the slices read as pairs, as ints. -/
import Derived.Test.YtfkodpglgeghlaaDoorPrA
namespace Go.Proofs.YtfkodpglgeghlaaDoor
open Go.RowKit

theorem getD_extP {xs ys : List (Int × Int)} (h : xs.length = ys.length) (k : ∀ j, j < xs.length → xs.getD j (0, 0) = ys.getD j (0, 0)) : xs = ys := by
  apply List.ext_getElem h
  intro i h1 h2
  have := k i h1
  simpa [List.getD, h1, h2] using this

set_option maxRecDepth 8000 in
set_option maxHeartbeats 4000000 in
theorem samePairs_any (v u : Value) (xs ys : List (Int × Int)) (w : World) (hv : PRow w v xs) (hu : PRow w u ys) :
    Calls Tryd.prog 33 #[v, u] w fun e w' => e = .returned (.bool (decide (xs = ys))) ∧ Below w.heap.size w w' := by
  obtain ⟨a, c, rfl, hxc, hcm, hx⟩ := hv
  obtain ⟨a', c', rfl, hyc, hcm', hy⟩ := hu
  unfold maxLen at hcm hcm'
  by_cases hl : xs.length = ys.length
  · have HX := Lib.hid hx; clear hx
    have HY := Lib.hid hy; clear hy
    have HE := Lib.hid (fun (h : ∀ j, j < xs.length → xs.getD j (0, 0) = ys.getD j (0, 0)) => getD_extP hl h)
    have HN := Lib.hid (fun j (h : xs.getD j (0, 0) ≠ ys.getD j (0, 0)) => show decide (xs = ys) = false from decide_eq_false (fun e => h (by rw [e])))
    rw [← hl] at HY hyc ⊢
    generalize hnn : xs.length = n at *
    have HNN := Lib.hid hnn; clear hnn
    have hne : ((n : Int) != (n : Int)) = false := by simp
    clear hl
    go_enter Tryd.func33, Tryd.ntmps33
    go_wp2_with fail
    go_loopw [5, 6] (fun i _ wr => ∃ k q : Nat, k ≤ n ∧ i = .int .i64 k ∧ wr = w.drewN q ∧ Hid (∀ j, j < k → xs.getD j (0, 0) = ys.getD j (0, 0))) (fun i _ _ => n - (intOf i).toNat)
    case atStart => exact ⟨0, 0, Nat.zero_le _, rfl, rfl, fun j hj => absurd hj (Nat.not_lt_zero _)⟩
    case round =>
      obtain ⟨k, q, hk, rfl, rfl, HQ⟩ := hrel
      by_cases hlt : k < n
      · obtain ⟨b, off, ha, hb, hx⟩ := HX.out.resolve_left (by omega)
        obtain ⟨b', off', ha', hb', hy⟩ := HY.out.resolve_left (by omega)
        subst ha; subst ha'
        obtain ⟨x0, x1⟩ := hx k hlt
        obtain ⟨y0, y1⟩ := hy k hlt
        have HNK := Lib.hid (HN.out k)
        clear hx hy
        generalize hp : xs.getD k (0, 0) = p at *
        generalize hr : ys.getD k (0, 0) = r at *
        have HPR := Lib.hid (And.intro hp hr); clear hp hr
        obtain ⟨p0, p1⟩ := p
        obtain ⟨r0, r1⟩ := r
        simp only at x0 x1 y0 y1
        by_cases h0 : p0 = r0
        · subst h0
          by_cases h1 : p1 = r1
          · subst h1
            have HRL : Hid (∀ j, j < k + 1 → xs.getD j (0, 0) = ys.getD j (0, 0)) := fun j hj => by
              by_cases e : j = k
              · rw [e, HPR.out.1, HPR.out.2]
              · exact HQ.out j (by omega)
            go_wp2_with fail
            go_quiet (fail)
            go_wp2_with fail
            go_roundw
            case rel => exact ⟨k + 1, _, by omega, by go_num, rfl, HRL.out⟩
            case measure => simp [intOf]; omega
          · have heb : (p1 == r1) = false := by simp [h1]
            have HF := Lib.hid (HNK.out (fun e => h1 (by injection e)))
            clear h1
            go_wp2_with fail
            go_quiet (fail)
            go_wp2_with fail
            go_ret
            exact ⟨ret_bool HF.out.symm, below_drewN (Below.refl _ _) _⟩
        · have heb : (p0 == r0) = false := by simp [h0]
          have HF := Lib.hid (HNK.out (fun e => h0 (by injection e)))
          clear h0
          go_wp2_with fail
          go_quiet (fail)
          go_wp2_with fail
          go_ret
          exact ⟨ret_bool HF.out.symm, below_drewN (Below.refl _ _) _⟩
      · have hkn : k = n := by omega
        subst hkn
        have HF : Hid (decide (xs = ys) = true) := decide_eq_true (HE.out HQ.out)
        go_wp2_with fail
        go_ret
        exact ⟨ret_bool HF.out.symm, below_drewN (Below.refl _ _) _⟩
  · have HF : Hid (decide (xs = ys) = false) := decide_eq_false (fun e => hl (by rw [e]))
    clear hx hy
    generalize xs.length = n at *
    generalize ys.length = n' at *
    have hne : ((n : Int) != (n' : Int)) = true := by simp; omega
    go_enter Tryd.func33, Tryd.ntmps33
    go_wp2_with fail
    go_ret
    exact ⟨ret_bool HF.out.symm, Below.refl _ _⟩

set_option maxRecDepth 8000 in
set_option maxHeartbeats 4000000 in
theorem sameCir_any (n n' : Int) (u v u' v' : Value) (ps ps' : List (Int × Int)) (os os' : List Int) (w : World) (h1 : PRow w u ps) (h2 : Row w v os) (h3 : PRow w u' ps') (h4 : Row w v' os') :
    Calls Tryd.prog 16 #[circV n u v, circV n' u' v'] w fun e w' => e = .returned (.bool (decide ((n, ps, os) = (n', ps', os')))) ∧ Below w.heap.size w w' := by
  have HP := Lib.hid (fun W (hW : Below w.heap.size w W) => samePairs_any u u' ps ps' W (h1.keep hW) (h3.keep hW))
  have HI := Lib.hid (fun W (hW : Below w.heap.size w W) => sameInts_any v v' os os' W (h2.keep hW) (h4.keep hW))
  obtain ⟨a1, c1, rfl, _⟩ := h1
  obtain ⟨a2, c2, rfl, _⟩ := h2
  obtain ⟨a3, c3, rfl, _⟩ := h3
  obtain ⟨a4, c4, rfl, _⟩ := h4
  unfold circV
  have HD : Hid (decide ((n, ps, os) = (n', ps', os')) = (decide (n = n') && (decide (ps = ps') && decide (os = os')))) := by
    unfold Hid
    rw [Bool.eq_iff_iff]
    simp
  rw [HD.out]
  generalize decide (ps = ps') = d2 at *
  generalize decide (os = os') = d3 at *
  generalize ps.length = m1 at *
  generalize os.length = m2 at *
  generalize ps'.length = m3 at *
  generalize os'.length = m4 at *
  have HA : Hid (Below w.heap.size w ((w.alloc (.cells #[.int .i64 n, .slice a1 m1 c1, .slice a2 m2 c2] 27)).alloc (.cells #[.int .i64 n', .slice a3 m3 c3, .slice a4 m4 c4] 27))) := ((Below.refl _ w).alloc (Nat.le_refl _) _).alloc (by simp) _
  have HZ : Hid (∀ W, Below (w.heap.size + 2) ((w.alloc (.cells #[.int .i64 n, .slice a1 m1 c1, .slice a2 m2 c2] 27)).alloc (.cells #[.int .i64 n', .slice a3 m3 c3, .slice a4 m4 c4] 27)) W → W.cell? ⟨w.heap.size, 2, none⟩ = some (.slice a2 m2 c2) ∧ W.cell? ⟨w.heap.size + 1, 2, none⟩ = some (.slice a4 m4 c4)) := fun W hW => by
    have hz : (w.alloc (.cells #[.int .i64 n, .slice a1 m1 c1, .slice a2 m2 c2] 27)).heap.size = w.heap.size + 1 := by simp
    have hb : Below (w.heap.size + 1) (w.alloc (.cells #[.int .i64 n, .slice a1 m1 c1, .slice a2 m2 c2] 27)) ((w.alloc (.cells #[.int .i64 n, .slice a1 m1 c1, .slice a2 m2 c2] 27)).alloc (.cells #[.int .i64 n', .slice a3 m3 c3, .slice a4 m4 c4] 27)) := (Below.refl _ _).alloc (by simp) _
    refine ⟨?_, ?_⟩
    · rw [hW.cell (p := ⟨w.heap.size, 2, none⟩) (by simp), hb.cell (p := ⟨w.heap.size, 2, none⟩) (by simp), cell_of_row _ _ 2 _ 27 (0, 0) (heap_alloc_new _ _)]; rfl
    · rw [hW.cell (p := ⟨w.heap.size + 1, 2, none⟩) (by simp), ← hz, cell_of_row _ _ 2 _ 27 (0, 0) (heap_alloc_new _ _)]; rfl
  by_cases hn : n = n'
  · subst hn
    have hnn : (n == n) = true := by simp
    rw [show decide (n = n) = true from decide_eq_true rfl, Bool.true_and]
    go_enter Tryd.func16, Tryd.ntmps16
    go_wp2_with fail
    refine (HP.out _ HA.out).mono ?_
    rintro e w1 ⟨rfl, hb1⟩
    have HB1 := Lib.hid (HA.out.trans (hb1.mono HA.out.size))
    obtain ⟨z1, z2⟩ := HZ.out w1 (hb1.mono (by simp))
    clear hb1
    cases d2 with
    | false =>
      go_wp2_with fail
      go_ret
      exact ⟨rfl, HB1.out⟩
    | true =>
      go_wp2_with fail
      refine (HI.out _ HB1.out).mono ?_
      rintro e w2 ⟨rfl, q, rfl⟩
      go_wp2_with fail
      go_ret
      exact ⟨by simp, below_drewN HB1.out q⟩
  · have hnn : (n == n') = false := by simp [hn]
    rw [show decide (n = n') = false from decide_eq_false hn, Bool.false_and]
    go_enter Tryd.func16, Tryd.ntmps16
    go_wp2_with fail
    go_ret
    exact ⟨rfl, HA.out⟩
end Go.Proofs.YtfkodpglgeghlaaDoor
