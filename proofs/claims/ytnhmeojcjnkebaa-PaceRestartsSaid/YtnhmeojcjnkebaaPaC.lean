/- The contract of pace.New: the lists copied, 16 conflicts to the first restart. Conditions: the lists read as ints, each of at most 1000. -/
import Derived.Test.YtnhmeojcjnkebaaPaB
import Derived.Test.YtnhmeojcjnkebaaClI
import Derived.Deep.RegionHeld3
set_option linter.unusedVariables false
set_option linter.unusedSimpArgs false
namespace Go.Proofs.Ytnhmeojcjnkebaa
open Go.RowKit

set_option maxRecDepth 8000 in
set_option maxHeartbeats 8000000 in
theorem pcnew_any (w : World) (v0 v1 v2 v3 : Value) (x0 x1 x2 x3 : List Int) (bud rou : Int) (r0 : Row w v0 x0) (r1 : Row w v1 x1) (r2 : Row w v2 x2) (r3 : Row w v3 x3) (l0 : x0.length ≤ 1000) (l1 : x1.length ≤ 1000) (l2 : x2.length ≤ 1000) (l3 : x3.length ≤ 1000) :
    Calls Try.prog 7 #[.agg #[v0, v1, v2, v3, .int .i64 bud, .int .i64 rou]] w fun e w' => ∃ g a c, e = .returned (.pointer (some ⟨g, 0, none⟩)) ∧ PcS w.heap.size w' g a c x0 0 bud 0 0 16 ∧ Below w.heap.size w w' := by
  have HC : Hid (∀ (V : World) (v : Value) (x : List Int), Row V v x → x.length ≤ 1000 → Calls Try.prog 13 #[v] V fun e w' => ∃ u, e = .returned u ∧ w'.ownsRow V.heap.size 3 1 u x.length (x.map (Value.int .i64)) ∧ Below V.heap.size V w') := fun V v x hv hl => (cloneI_any v x V hv (by omega)).mono fun e w1 ⟨⟨u, k1, k2⟩, k3⟩ => ⟨u, k1, k2, k3⟩
  obtain ⟨a0, c0, rfl, _⟩ := id r0
  obtain ⟨a1, c1, rfl, _⟩ := id r1
  obtain ⟨a2, c2, rfl, _⟩ := id r2
  obtain ⟨a3, c3, rfl, _⟩ := id r3
  obtain ⟨A, hA⟩ : ∃ A, A = w.alloc (.cells #[.slice a0 x0.length c0, .slice a1 x1.length c1, .slice a2 x2.length c2, .slice a3 x3.length c3, .int .i64 bud, .int .i64 rou] 24) := ⟨_, rfl⟩
  have hbA : Below w.heap.size w A := by rw [hA]; exact (Below.refl _ _).alloc (Nat.le_refl _) _
  have hsA : A.heap.size = w.heap.size + 1 := by rw [hA]; exact Array.size_push _
  have hcA : ∀ k v, (#[.slice a0 x0.length c0, .slice a1 x1.length c1, .slice a2 x2.length c2, .slice a3 x3.length c3, .int .i64 bud, .int .i64 rou] : Array Value)[k]? = some v → A.cell? ⟨w.heap.size, k, none⟩ = some v := fun k v h => by
    rw [hA]
    unfold World.cell?
    rw [show (w.alloc _).heap[w.heap.size]? = _ from heap_alloc_new w _]
    simpa using h
  have HCL : Hid (∀ V, Below A.heap.size A V → V.cell? ⟨w.heap.size, 0, none⟩ = some (.slice a0 x0.length c0) ∧ V.cell? ⟨w.heap.size, 1, none⟩ = some (.slice a1 x1.length c1) ∧ V.cell? ⟨w.heap.size, 2, none⟩ = some (.slice a2 x2.length c2) ∧ V.cell? ⟨w.heap.size, 3, none⟩ = some (.slice a3 x3.length c3) ∧ V.cell? ⟨w.heap.size, 4, none⟩ = some (.int .i64 bud)) := fun V hV => by
    have hb : ∀ k, V.cell? ⟨w.heap.size, k, none⟩ = A.cell? ⟨w.heap.size, k, none⟩ := fun k => hV.cell (p := ⟨w.heap.size, k, none⟩) (by rw [hsA]; exact Nat.lt_succ_self _)
    exact ⟨(hb 0).trans (hcA 0 _ rfl), (hb 1).trans (hcA 1 _ rfl), (hb 2).trans (hcA 2 _ rfl), (hb 3).trans (hcA 3 _ rfl), (hb 4).trans (hcA 4 _ rfl)⟩
  have hw : ∀ V, Below A.heap.size A V → Below w.heap.size w V := fun V hV => hbA.trans (hV.mono (by rw [hsA]; exact Nat.le_succ _))
  have HCC : Hid (∀ V v x, Below A.heap.size A V → ((v = .slice a0 x0.length c0 ∧ x = x0) ∨ (v = .slice a1 x1.length c1 ∧ x = x1) ∨ (v = .slice a2 x2.length c2 ∧ x = x2) ∨ (v = .slice a3 x3.length c3 ∧ x = x3)) → Calls Try.prog 13 #[v] V fun e w' => ∃ u, e = .returned u ∧ w'.ownsRow V.heap.size 3 1 u x.length (x.map (Value.int .i64)) ∧ Below V.heap.size V w') := by
    rintro V v x hV (⟨rfl, rfl⟩ | ⟨rfl, rfl⟩ | ⟨rfl, rfl⟩ | ⟨rfl, rfl⟩)
    · exact HC.out V _ x (r0.keep (hw V hV)) l0
    · exact HC.out V _ x (r1.keep (hw V hV)) l1
    · exact HC.out V _ x (r2.keep (hw V hV)) l2
    · exact HC.out V _ x (r3.keep (hw V hV)) l3
  obtain ⟨z0, z1, z2, z3, z4⟩ := HCL.out A (Below.refl _ _)
  obtain ⟨y0, y1, y2, y3, y4⟩ := HCL.out A.drew (Below.refl _ _).drew
  have HBA := Lib.hid hbA
  have HSA := Lib.hid hsA
  have HA := Lib.hid hA
  clear hcA hw hbA hsA r0 r1 r2 r3 HC hA
  go_enter Try.func7, Try.ntmps7
  go_upto_region 1 with fail
  rw [← HA.out]
  clear HA
  go_region_held3 (fun V => V.cell? ⟨w.heap.size, 0, none⟩ = some (.slice a0 x0.length c0) ∧ V.cell? ⟨w.heap.size, 1, none⟩ = some (.slice a1 x1.length c1) ∧ V.cell? ⟨w.heap.size, 2, none⟩ = some (.slice a2 x2.length c2) ∧ V.cell? ⟨w.heap.size, 3, none⟩ = some (.slice a3 x3.length c3) ∧ V.cell? ⟨w.heap.size, 4, none⟩ = some (.int .i64 bud)) (first | exact HCL.out _ (Below.refl _ _) | exact HCL.out _ (Below.refl _ _).drew | exact HCL.out _ HBa.out | exact HCL.out _ HBb.out | exact HCL.out _ HBc.out | exact HCL.out _ HBd.out | exact HCL.out _ (HBd.out.alloc HBd.out.size _)) (first
    | (refine (HCC.out _ _ x3 HBc.out (.inr (.inr (.inr ⟨rfl, rfl⟩)))).mono ?_; rintro e wd ⟨u3, rfl, ho3, hb3⟩; obtain ⟨sa3, sc3, rfl, _, _⟩ := own_shape ho3; have HBd : Hid (Below A.heap.size A wd) := HBc.out.trans (hb3.mono HBc.out.size); have HBad : Hid (Below wa.heap.size wa wd) := HBac.out.trans (hb3.mono HBac.out.size); clear ho3 hb3)
    | (refine (HCC.out _ _ x2 HBb.out (.inr (.inr (.inl ⟨rfl, rfl⟩)))).mono ?_; rintro e wc ⟨u2, rfl, ho2, hb2⟩; obtain ⟨sa2, sc2, rfl, _, _⟩ := own_shape ho2; have HBc : Hid (Below A.heap.size A wc) := HBb.out.trans (hb2.mono HBb.out.size); have HBac : Hid (Below wa.heap.size wa wc) := HBab.out.trans (hb2.mono HBab.out.size); clear ho2 hb2)
    | (refine (HCC.out _ _ x1 HBa.out (.inr (.inl ⟨rfl, rfl⟩))).mono ?_; rintro e wb ⟨u1, rfl, ho1, hb1⟩; obtain ⟨sa1, sc1, rfl, _, _⟩ := own_shape ho1; have HBb : Hid (Below A.heap.size A wb) := HBa.out.trans (hb1.mono HBa.out.size); have HBab := Lib.hid hb1; clear ho1 hb1)
    | (refine (HCC.out _ _ x0 (by first | exact Below.refl _ _ | exact (Below.refl _ _).drew) (.inl ⟨rfl, rfl⟩)).mono ?_; rintro e wa ⟨u0, rfl, ho0, hb0⟩; have HO0 := Lib.hid ho0; obtain ⟨sa0, sc0, rfl, _, _⟩ := own_shape ho0; have HBa : Hid (Below A.heap.size A wa) := (by first | exact hb0 | exact ((Below.refl _ A).drew.trans hb0)); clear ho0 hb0))
  go_wp2_with fail
  go_ret
  have hsz : w.heap.size ≤ wd.heap.size := (HBA.out.trans (HBd.out.mono HBA.out.size)).size
  have hal : Below wd.heap.size wd (wd.alloc (.cells #[.slice sa0 x0.length sc0, .int .i64 0, .slice sa1 x1.length sc1, .int .i64 0, .slice sa2 x2.length sc2, .int .i64 0, .slice sa3 x3.length sc3, .int .i64 0, .int .i64 bud, .int .i64 0, .int .i64 0, .int .i64 16] 37)) := (Below.refl _ _).alloc (Nat.le_refl _) _
  have hbk : (wd.alloc (.cells #[.slice sa0 x0.length sc0, .int .i64 0, .slice sa1 x1.length sc1, .int .i64 0, .slice sa2 x2.length sc2, .int .i64 0, .slice sa3 x3.length sc3, .int .i64 0, .int .i64 bud, .int .i64 0, .int .i64 0, .int .i64 16] 37)).heap[wd.heap.size]? = some (.cells #[.slice sa0 x0.length sc0, .int .i64 0, .slice sa1 x1.length sc1, .int .i64 0, .slice sa2 x2.length sc2, .int .i64 0, .slice sa3 x3.length sc3, .int .i64 0, .int .i64 bud, .int .i64 0, .int .i64 0, .int .i64 16] 37) := heap_alloc_new wd _
  have hob := own_keep (own_keep HO0.out HBad.out) hal
  have hA0 : A.heap.size ≤ A.heap.size := Nat.le_refl _
  refine ⟨wd.heap.size, sa0, sc0, rfl, ⟨?_, ?_, ?_, ?_, ?_, ?_, fun k => ?_, hsz, by rw [show (wd.alloc _).heap.size = wd.heap.size + 1 from Array.size_push _]; exact Nat.lt_succ_self _, own_base hob (HBA.out.size), fun e => ?_, ?_, by omega⟩, (HBA.out.trans (HBd.out.mono HBA.out.size)).trans (hal.mono hsz)⟩
  · unfold World.cell?; rw [hbk]; rfl
  · unfold World.cell?; rw [hbk]; rfl
  · unfold World.cell?; rw [hbk]; rfl
  · unfold World.cell?; rw [hbk]; rfl
  · unfold World.cell?; rw [hbk]; rfl
  · unfold World.cell?; rw [hbk]; rfl
  · unfold World.frozen?; rw [hbk]; simp
  · have h1 := (HO0.out.lt _ e).2
    have h2 := HBad.out.size
    omega
  · omega
end Go.Proofs.Ytnhmeojcjnkebaa
