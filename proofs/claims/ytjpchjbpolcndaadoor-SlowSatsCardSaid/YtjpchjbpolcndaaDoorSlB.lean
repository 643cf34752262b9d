/- Contracts of cmp.Or at three ints, cmp.Compare, bits.OnesCount, slow.shorter: an order of masks. No conditions beyond those typed. · The contract of slow.shorter: an order of masks. No conditions. · The contract of slices.SortFunc by slow.shorter: the masks in another order. Conditions: those typed. · The contract of slices.SortFunc by slow.shorter on a row of masks: another order, the same members. Conditions: how the row lies in memory. -/
import Derived.Test.YtjpchjbpolcndaaDoorSlA
import Derived.Lib.Small
import Derived.Deep.RegionHeld3
import Derived.IntWalk
import Derived.Test.YtjpchjbpolcndaaDoorBlkM
import Derived.Sort.Grow
import Derived.Test.YtjpchjbpolcndaaDoorShelfQ
import Derived.Shelf.SlSortCmp.NoneTotal
namespace Go.Proofs.YtjpchjbpolcndaaDoor
open Go.RowKit Go.Lib

theorem compare_cases (x y : Int) : (x < y ∧ compareInt x y = -1) ∨ (y < x ∧ compareInt x y = 1) ∨ (x = y ∧ compareInt x y = 0) := by
  unfold compareInt
  rcases Int.lt_trichotomy x y with h | h | h
  · exact .inl ⟨h, by rw [if_pos h]⟩
  · exact .inr (.inr ⟨h, by rw [if_neg (by omega), if_neg (by omega)]⟩)
  · exact .inr (.inl ⟨h, by rw [if_neg (by omega), if_pos h]⟩)
/-- The first of three that is not 0. -/
def or3 (x y z : Int) : Int := if x ≠ 0 then x else if y ≠ 0 then y else z
/-- The order of rest, whatever the count of bits. -/
def cfM (f : Nat × Nat → Int) (a b : Nat × Nat) : Int := or3 (compareInt (f a) (f b)) (compareInt a.1 b.1) (compareInt a.2 b.2)

/-- The first that is not 0. -/
def orL (xs : List Int) : Int := (xs.find? fun x => x != 0).getD 0
theorem orL_hit {xs : List Int} {k : Nat} (hk : k < xs.length) (h0 : ∀ j, j < k → xs.getD j 0 = 0) (h : xs.getD k 0 ≠ 0) : orL xs = xs.getD k 0 := by
  unfold orL
  have h1 : xs.find? (fun x => x != 0) = some (xs[k]) := by
    rw [List.find?_eq_some_iff_getElem]
    refine ⟨by simpa [List.getD, hk] using h, k, hk, rfl, fun j hj => ?_⟩
    have := h0 j hj
    simpa [List.getD, show j < xs.length by omega] using this
  rw [h1]
  simp [List.getD, hk]
theorem orL_none {xs : List Int} (h0 : ∀ j, j < xs.length → xs.getD j 0 = 0) : orL xs = 0 := by
  unfold orL
  have h1 : xs.find? (fun x => x != 0) = none := by
    rw [List.find?_eq_none]
    intro x hx
    obtain ⟨j, hj, rfl⟩ := List.getElem_of_mem hx
    have := h0 j hj
    simpa [List.getD, hj] using this
  rw [h1]
  rfl
theorem orL_three (x y z : Int) : orL [x, y, z] = or3 x y z := by
  unfold orL or3
  rw [List.find?_cons, List.find?_cons, List.find?_cons, List.find?_nil]
  cases hx : (x != 0) <;> cases hy : (y != 0) <;> cases hz : (z != 0) <;> simp_all

set_option maxHeartbeats 1000000 in
theorem or_any (v : Value) (xs : List Int) (w : World) (hv : Row w v xs) :
    Calls Tryd.prog 88 #[v] w fun e w' => e = .returned (.int .i64 (orL xs)) ∧ w = w' := by
  obtain ⟨a, c, rfl, hc1, hc2, hr⟩ := hv
  unfold maxLen at hc2
  have HR := Lib.hid hr; clear hr
  have HHIT := Lib.hid (fun k hk => @orL_hit xs k hk)
  have HNONE := Lib.hid (@orL_none xs)
  generalize orL xs = r at *
  generalize hN : xs.length = m at *
  clear hN
  go_enter Tryd.func88, Tryd.ntmps88
  go_wp2_with fail
  go_loop [5, 8] (fun _ i => ∃ k : Nat, k ≤ m ∧ i = .int .i64 k ∧ Hid (∀ j, j < k → xs.getD j 0 = 0)) (fun _ i => m - (intOf i).toNat)
  case atStart => exact ⟨0, Nat.zero_le _, rfl, fun j hj => absurd hj (Nat.not_lt_zero _)⟩
  case round =>
    obtain ⟨k, hk, rfl, HQ⟩ := hrel
    by_cases hlt : k < m
    · obtain ⟨b, off, ha, hb, hc⟩ := HR.out.resolve_left (by omega)
      subst ha
      have g1 := hc k hlt
      have HH := Lib.hid (HHIT.out k hlt HQ.out)
      have HQ1 : Hid (xs.getD k 0 = 0 → ∀ j, j < k + 1 → xs.getD j 0 = 0) := fun h j hj => by
        by_cases e : j = k
        · subst e; exact h
        · exact HQ.out j (by omega)
      clear hc
      generalize xs.getD k 0 = y at *
      cases hy : (y != 0) with
      | true =>
        have HRR := Lib.hid (HH.out (by simpa using hy))
        clear HH HQ1
        go_wp2_with fail
        go_ret
        exact ⟨ret_int HRR.out.symm, rfl⟩
      | false =>
        have HQ2 := Lib.hid (HQ1.out (by simpa using hy))
        clear HH HQ1
        go_wp2_with fail
        go_round
        case rel => exact ⟨k + 1, by omega, by go_num, HQ2.out⟩
        case measure => simp [intOf]; omega
    · have hkm : k = m := by omega
      have HRR := Lib.hid (HNONE.out (by rw [← hkm]; exact HQ.out))
      clear HQ HNONE HHIT
      subst hkm
      go_wp2_with fail
      go_ret
      exact ⟨ret_int HRR.out.symm, rfl⟩

set_option maxHeartbeats 2000000 in
theorem ones64 (x : Int) : ∃ r : Int, ∀ w, Calls Tryd.prog 116 #[.int .u64 x] w fun e w' => e = .returned (.int .i64 r) ∧ w = w' := by
  constructor
  intro w
  go_enter Tryd.func116, Tryd.ntmps116
  go_wp2_with fail
  go_ret
  exact ⟨rfl, rfl⟩

set_option maxHeartbeats 1000000 in
theorem ones_any (x : Int) : ∃ r : Int, ∀ w, Calls Tryd.prog 90 #[.int .u64 x] w fun e w' => e = .returned (.int .i64 r) ∧ w = w' := by
  obtain ⟨r, hr⟩ := ones64 x
  refine ⟨r, fun w => ?_⟩
  have HR := Lib.hid hr
  clear hr
  go_enter Tryd.func90, Tryd.ntmps90
  go_wp2_with (go_at_call 116; refine (HR.out _).mono ?_; rintro e w' ⟨rfl, rfl⟩)
  go_ret
  exact ⟨rfl, rfl⟩
/-- How many bits a mask has: what the library answers. -/
noncomputable def onesM (x : Int) : Int := Classical.choose (ones_any x)
theorem onesM_any (x : Int) (w : World) : Calls Tryd.prog 90 #[.int .u64 x] w fun e w' => e = .returned (.int .i64 (onesM x)) ∧ w = w' := Classical.choose_spec (ones_any x) w

set_option maxHeartbeats 1000000 in
theorem cmpI_any (x y : Int) (w : World) : Calls Tryd.prog 89 #[.int .i64 x, .int .i64 y] w fun e w' => e = .returned (.int .i64 (compareInt x y)) ∧ w = w' := by
  have HN : Hid (∀ z (W : World), Calls Tryd.prog 114 #[.int .i64 z] W fun e w' => e = .returned (.bool false) ∧ W = w') := fun z W => by
    have hz : (z != z) = false := by simp
    go_enter Tryd.func114, Tryd.ntmps114
    go_wp2_with fail
    go_ret
    exact ⟨rfl, rfl⟩
  rcases compare_cases x y with ⟨h, e⟩ | ⟨h, e⟩ | ⟨h, e⟩
  all_goals
    rw [e]
    clear e
  · go_enter Tryd.func89, Tryd.ntmps89
    go_wp2_with (go_at_call 114; refine (HN.out _ _).mono ?_; rintro e w' ⟨rfl, rfl⟩)
    go_ret
    exact ⟨rfl, rfl⟩
  · have h2 : ¬ x < y := by omega
    go_enter Tryd.func89, Tryd.ntmps89
    go_wp2_with (go_at_call 114; refine (HN.out _ _).mono ?_; rintro e w' ⟨rfl, rfl⟩)
    go_ret
    exact ⟨rfl, rfl⟩
  · subst h
    go_enter Tryd.func89, Tryd.ntmps89
    go_wp2_with (go_at_call 114; refine (HN.out _ _).mono ?_; rintro e w' ⟨rfl, rfl⟩)
    go_ret
    exact ⟨rfl, rfl⟩
end Go.Proofs.YtjpchjbpolcndaaDoor

namespace Go.Proofs.YtjpchjbpolcndaaDoor
open Go.RowKit Go.Lib Go.Sort

theorem grow_three (W : World) (A B C : Obj) : (((W.alloc A).alloc B).alloc C).drew = grow (W.drewN 1) #[A, B, C] := by
  rw [alloc_eq_grow, alloc_eq_grow, alloc_eq_grow, grow_grow, grow_grow]
  rfl

/-- How many bits both masks have, in the program's own words. -/
noncomputable def ocM (d : Nat × Nat) : Int := onesM (IntKind.u64.wrap (bits .or .i64 (d.1 : Int) (d.2 : Int)))

set_option maxRecDepth 8000 in
set_option maxHeartbeats 4000000 in
theorem shorter_any (p1 m1 p2 m2 : Nat) (W : World) :
    Calls Tryd.prog 72 #[.agg #[.int .i64 (p1 : Int), .int .i64 (m1 : Int)], .agg #[.int .i64 (p2 : Int), .int .i64 (m2 : Int)]] W fun e w' => e = .returned (.int .i64 (cfM ocM (p1, m1) (p2, m2))) ∧ ∃ q os', w' = grow (W.drewN q) os' := by
  have HO := Lib.hid (fun x w => onesM_any x w)
  have HC := Lib.hid (fun x y w => cmpI_any x y w)
  have HOR : Hid (∀ (x y z : Int) (W0 : World) (nb : Nat), nb = W0.heap.size → Calls Tryd.prog 88 #[.slice (some ⟨nb, 0, none⟩) 3 3] (W0.alloc (.cells #[.int .i64 x, .int .i64 y, .int .i64 z] 3)).drew fun e w' => e = .returned (.int .i64 (or3 x y z)) ∧ (W0.alloc (.cells #[.int .i64 x, .int .i64 y, .int .i64 z] 3)).drew = w') := fun x y z W0 nb hnb => by
    subst hnb
    obtain ⟨h0, h1, h2⟩ := cells3 W0 (W0.alloc (.cells #[.int .i64 x, .int .i64 y, .int .i64 z] 3)).drew _ _ _ _ (Below.refl _ _).drew
    rw [← orL_three]
    exact or_any (.slice (some ⟨W0.heap.size, 0, none⟩) 3 3) [x, y, z] _ ⟨_, _, rfl, Nat.le_refl _, by unfold maxLen; simp, .inr ⟨W0.heap.size, 0, rfl, by simp, fun i hi => by
      match i, hi with
      | 0, _ => exact h0
      | 1, _ => exact h1
      | 2, _ => exact h2⟩⟩
  have HO3 := Lib.hid (fun x y z => HOR.out x y z ((W.alloc (.cells #[.int .i64 (p1 : Int), .int .i64 (m1 : Int)] 110)).alloc (.cells #[.int .i64 (p2 : Int), .int .i64 (m2 : Int)] 110)) (W.heap.size + 1 + 1) (by simp))
  have HE : Hid (cfM ocM (p1, m1) (p2, m2) = or3 (compareInt (onesM (IntKind.u64.wrap (bits .or .i64 (p1 : Int) (m1 : Int)))) (onesM (IntKind.u64.wrap (bits .or .i64 (p2 : Int) (m2 : Int))))) (compareInt (p1 : Int) (p2 : Int)) (compareInt (m1 : Int) (m2 : Int))) := rfl
  rw [HE.out]
  clear HE
  go_enter Tryd.func72, Tryd.ntmps72
  go_wp2_with fail
  have HK : Hid (∀ W', Below (W.heap.size + 2) ((W.alloc (.cells #[.int .i64 (p1 : Int), .int .i64 (m1 : Int)] 110)).alloc (.cells #[.int .i64 (p2 : Int), .int .i64 (m2 : Int)] 110)) W' → W'.cell? ⟨W.heap.size, 0, none⟩ = some (.int .i64 (p1 : Int)) ∧ W'.cell? ⟨W.heap.size, 1, none⟩ = some (.int .i64 (m1 : Int)) ∧ W'.cell? ⟨W.heap.size + 1, 0, none⟩ = some (.int .i64 (p2 : Int)) ∧ W'.cell? ⟨W.heap.size + 1, 1, none⟩ = some (.int .i64 (m2 : Int))) := fun W' h => by
    have hA : Below (W.alloc (.cells #[.int .i64 (p1 : Int), .int .i64 (m1 : Int)] 110)).heap.size (W.alloc (.cells #[.int .i64 (p1 : Int), .int .i64 (m1 : Int)] 110)) W' := ((Below.refl _ _).alloc (Nat.le_refl _) _).trans (h.mono (by simp))
    have h1 := cells2 W _ _ _ _ hA
    have h2 := cells2 (W.alloc (.cells #[.int .i64 (p1 : Int), .int .i64 (m1 : Int)] 110)) W' _ _ 110 (by simpa using h)
    rw [show (W.alloc (.cells #[.int .i64 (p1 : Int), .int .i64 (m1 : Int)] 110)).heap.size = W.heap.size + 1 by simp] at h2
    exact ⟨h1.1, h1.2, h2.1, h2.2⟩
  go_region_held3 (fun W' => W'.cell? ⟨W.heap.size, 0, none⟩ = some (.int .i64 (p1 : Int)) ∧ W'.cell? ⟨W.heap.size, 1, none⟩ = some (.int .i64 (m1 : Int)) ∧ W'.cell? ⟨W.heap.size + 1, 0, none⟩ = some (.int .i64 (p2 : Int)) ∧ W'.cell? ⟨W.heap.size + 1, 1, none⟩ = some (.int .i64 (m2 : Int))) (first | exact HK.out _ (Below.refl _ _).drew | exact HK.out _ (below_drewN (Below.refl _ _) _) | exact HK.out _ ((below_drewN (Below.refl _ _) _).alloc (by simp) _) | exact HK.out _ ((Below.refl _ _).drew.alloc (by simp) _)) (first
    | (go_at_call 90; refine (HO.out _ _).mono ?_; rintro e w' ⟨rfl, rfl⟩)
    | (go_at_call 89; refine (HC.out _ _ _).mono ?_; rintro e w' ⟨rfl, rfl⟩)
    | (go_at_call 88; refine (HO3.out _ _ _).mono ?_; rintro e w' ⟨rfl, rfl⟩))
  all_goals go_wp2_with fail
  all_goals go_ret
  exact ⟨rfl, 1, _, grow_three W _ _ _⟩
end Go.Proofs.YtjpchjbpolcndaaDoor

namespace Go.Proofs.YtjpchjbpolcndaaDoor
open Go.RowKit Go.Lib Go.Sort Go.Shelf

theorem ltM (f : Nat × Nat → Int) (a b : Nat × Nat) : ltOf (cfM f) a b = decide (f a < f b ∨ (f a = f b ∧ (a.1 < b.1 ∨ (a.1 = b.1 ∧ a.2 < b.2)))) := by
  unfold ltOf cfM or3
  apply decide_eq_decide.2
  rcases compare_cases (f a) (f b) with ⟨h1, e1⟩ | ⟨h1, e1⟩ | ⟨h1, e1⟩ <;> rcases compare_cases (a.1 : Int) (b.1 : Int) with ⟨h2, e2⟩ | ⟨h2, e2⟩ | ⟨h2, e2⟩ <;> rcases compare_cases (a.2 : Int) (b.2 : Int) with ⟨h3, e3⟩ | ⟨h3, e3⟩ | ⟨h3, e3⟩ <;> rw [e1, e2, e3] <;> simp <;> omega
theorem swoM (f : Nat × Nat → Int) : SWO (ltOf (cfM f)) where
  irrefl x := by rw [ltM]; simp
  trans x y z h1 h2 := by rw [ltM] at *; simp at *; omega
  ntrans x y z h1 h2 := by rw [ltM] at *; simp at *; omega
def encM (d : Nat × Nat) : List Value := [.int .i64 (d.1 : Int), .int .i64 (d.2 : Int)]
theorem cmpLaysM (blk off size : Nat) (w : World) : CmpLays Tryd.prog 72 #[] encM 2 (cfM ocM) blk off size w :=
  fun _ _ _ _ x y => shorter_any x.1 x.2 y.1 y.2 _
theorem sortM_any (blk off cap : Nat) (d : Array (Nat × Nat)) (w : World) (hH : HoldsK encM 2 w blk off d) (hblk : blk < w.heap.size) (hsz : d.size < 4611686018427387904) :
    Calls Tryd.prog 71 #[.slice (some ⟨blk, off, none⟩) d.size cap, .func (.func 72) #[] #[]] w fun e w' => e = .returned (.tuple #[]) ∧ ∃ d' n os, PermIn 0 d.size d d' ∧ w' = sortWorldK encM 2 w blk off n d' os := by
  have eg : ∀ args w, (callFunc 72 args).run Tryd.prog w = .ok (.enter 72 args) w := enters_of Tryd.func72 (by kernel_rfl) rfl
  have hcon := AnyQ.slices_SortFunc Tryd.sortCl 2 Tryd.isAgg110 Tryd.sizeOf110 encM (fun _ => rfl) (fun x v hv => by simp [encM] at hv; rcases hv with rfl | rfl <;> rfl) (cfM ocM) (swoM ocM) 72 #[] blk off cap d w eg (cmpLaysM blk off d.size w) hH hblk hsz
  refine hcon.mono ?_
  rintro e w' ⟨rfl, d', n, os, hp, _, rfl⟩
  exact ⟨rfl, d', n, os, hp, rfl⟩
end Go.Proofs.YtjpchjbpolcndaaDoor

namespace Go.Proofs.YtjpchjbpolcndaaDoor
open Go.RowKit Go.Lib Go.Sort Go.Shelf

theorem encM_at (d : Mk) (r : Nat) : (encM d)[r % 2]! = if r % 2 = 0 then .int .i64 (d.1 : Int) else .int .i64 (d.2 : Int) := by
  rcases Nat.mod_two_eq_zero_or_one r with e | e <;> rw [e] <;> rfl
theorem getB_toArray (ds : List Mk) (j : Nat) : ds.toArray[j]! = ds.getD j (0, 0) := by
  by_cases h : j < ds.length
  · simp [List.getD, h]
  · simp [List.getD, h]; rfl
theorem getB_toList (d : Array Mk) (j : Nat) : d[j]! = d.toList.getD j (0, 0) := by
  have := getB_toArray d.toList j
  simpa using this
theorem MCel.holds {w : World} {b off : Nat} {ds : List Mk} (h : MCel w b off ds) : HoldsK encM 2 w b off ds.toArray := fun j hj => by
  have hj2 : j < ds.length * 2 := by simpa using hj
  obtain ⟨h1, h2, h3, h4⟩ := h (j / 2) (by omega)
  rw [get_flatK encM 2 _ j (by simpa using hj2), encM_at, getB_toArray]
  rcases Nat.mod_two_eq_zero_or_one j with e | e
  · rw [if_pos e, show off + j = off + j / 2 * 2 by omega]
    exact ⟨h1, h3⟩
  · rw [if_neg (by omega), show off + j = off + j / 2 * 2 + 1 by omega]
    exact ⟨h2, h4⟩
theorem MCel.of_holds {w : World} {b off : Nat} {d : Array Mk} (h : HoldsK encM 2 w b off d) : MCel w b off d.toList := fun j hj => by
  have hj' : j < d.size := by simpa using hj
  have h1 := h (j * 2) (by rw [size_flatK]; omega)
  have h2 := h (j * 2 + 1) (by rw [size_flatK]; omega)
  rw [get_flatK encM 2 _ _ (by omega), encM_at, getB_toList] at h1 h2
  rw [if_pos (by omega), show j * 2 / 2 = j by omega] at h1
  rw [if_neg (by omega), show (j * 2 + 1) / 2 = j by omega] at h2
  exact ⟨h1.1, by rw [Nat.add_assoc]; exact h2.1, h1.2, by rw [Nat.add_assoc]; exact h2.2⟩

theorem sortM_cel (B g cap : Nat) (ds : List Mk) (w : World) (hM : MCel w g 0 ds) (hB : B ≤ g) (hg : g < w.heap.size) (hn : ds.length ≤ 1000000000) :
    Calls Tryd.prog 71 #[.slice (some ⟨g, 0, none⟩) ds.length cap, .func (.func 72) #[] #[]] w fun e w' => e = .returned (.tuple #[]) ∧ ∃ es : List Mk, es.length = ds.length ∧ (∀ x, x ∈ es ↔ x ∈ ds) ∧ MCel w' g 0 es ∧ Below B w w' := by
  refine (sortM_any g 0 cap ds.toArray w hM.holds hg (by simp; omega)).mono ?_
  rintro e w' ⟨rfl, d', q, os, hp, rfl⟩
  obtain ⟨hs, _, hperm⟩ := hp
  have hs' : d'.size = ds.length := by simpa using hs
  have hperm' : d'.toList.Perm ds := by
    have h1 : (d'.extract 0 ds.toArray.size).toList = d'.toList := by simp [← hs']
    have h2 : (ds.toArray.extract 0 ds.toArray.size).toList = ds := by simp
    rw [h1, h2] at hperm
    exact hperm
  refine ⟨rfl, d'.toList, by simpa using hs', fun x => hperm'.mem_iff, ?_, ?_⟩
  · refine MCel.of_holds ?_
    show Holds id (grow (putRow id (Sort.ahead w q) g 0 (flatK encM 2 d')) os) g 0 (flatK encM 2 d')
    refine holds_grow id _ os g 0 _ ?_ (holds_putRow id _ g 0 (flatK encM 2 ds.toArray) _ (holds_ahead id w q g 0 _ hM.holds) (by rw [size_flatK, size_flatK]; simp [hs']))
    have := (Lib.below_putRow (enc := id) (q := q) (d := flatK encM 2 d') (Go.RowKit.Below.refl B w) hB).size
    omega
  · have h2 : Go.RowKit.Below B w (putRow id (Sort.ahead w q) g 0 (flatK encM 2 d')) := Lib.below_putRow (Go.RowKit.Below.refl B w) hB
    have h3 : Go.RowKit.Below (putRow id (Sort.ahead w q) g 0 (flatK encM 2 d')).heap.size (putRow id (Sort.ahead w q) g 0 (flatK encM 2 d')) (grow (putRow id (Sort.ahead w q) g 0 (flatK encM 2 d')) os) :=
      ⟨rfl, rfl, rfl, by simp [grow], fun k hk => Array.getElem?_append_left hk⟩
    exact h2.trans (h3.mono (by have := h2.size; omega))
theorem sortM_none (cap : Nat) (p : Option Addr) (w : World) :
    Calls Tryd.prog 71 #[.slice p 0 cap, .func (.func 72) #[] #[]] w fun e w' => e = .returned (.tuple #[]) ∧ w' = w := AnyF.slices_SortFunc_none Tryd.sortCl p cap _ w

set_option maxHeartbeats 1000000 in
theorem compactM_none (p : Option Addr) (cap : Nat) (w : World) :
    Calls Tryd.prog 73 #[.slice p 0 cap] w fun e w' => e = .returned (.slice p 0 cap) ∧ w = w' := by
  go_enter Tryd.func73, Tryd.ntmps73
  go_wp2_with fail
  go_ret
  exact ⟨rfl, rfl⟩
end Go.Proofs.YtjpchjbpolcndaaDoor
