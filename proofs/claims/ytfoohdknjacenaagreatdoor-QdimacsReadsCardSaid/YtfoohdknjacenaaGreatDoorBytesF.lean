/- slices.Insert at []byte: what comes back owns what stood ahead of i, the values, what stood from i on. Conditions: both slices are the call's own, in blocks of their own, and short; i is at most the first one's length. · slices.Insert at []byte ahead of the end: in place where there is room, else a new row. Conditions: both slices are the call's own, in blocks of their own, and short. · Contracts of qdimacs.letter, blockLines and Bytes: a formula's text ('fTextL'). Conditions: the formula reads as lists of small ints; the text is not too long; the table of powers of ten is as the program lays it. -/
import Derived.Test.YtfoohdknjacenaaGreatDoorGen
import Derived.Test.YtfoohdknjacenaaGreatDoorBits
import Derived.Test.YtfoohdknjacenaaGreatDoorBytesD
import Derived.Shelf.Spec.SlicesInsert
import Derived.Shelf.Spec.SlicesInsertGrow
import Derived.ChangeKeysEq
import Derived.Test.YtfoohdknjacenaaGreatDoorBlkM
import Derived.Test.YtfoohdknjacenaaGreatDoorFormP
namespace Go.Proofs.YtfoohdknjacenaaGreatDoor
open Go.RowKit Go.Lib

theorem setCells_blk (b : Nat) : ∀ (vs : List Value) (o : Nat) (w : World) (cur : Array Value) (t : TypeId) (fz : Nat × Nat), w.heap[b]? = some (.cells cur t fz) → ∃ cur', (w.setCells b o vs).heap[b]? = some (.cells cur' t fz) ∧ cur'.size = cur.size
  | [], _, _, cur, _, _, h => ⟨cur, h, rfl⟩
  | v :: r, o, w, cur, t, fz, h => by
    have h2 : (w.setCell ⟨b, o, none⟩ v).heap[b]? = some (.cells (cur.setIfInBounds o v) t fz) := by
      obtain ⟨hlt, hb⟩ := Array.getElem?_eq_some_iff.1 h
      simp [World.setCell, Array.getElem?_modify, h]
    obtain ⟨cur', h3, h4⟩ := setCells_blk b r (o + 1) _ _ t fz h2
    exact ⟨cur', by rw [World.setCells]; exact h3, by rw [h4]; simp⟩
theorem below_sets {B b : Nat} (hb : B ≤ b) : ∀ (vs : List Value) (o : Nat) {a w : World}, Below B a w → Below B a (w.setCells b o vs)
  | [], _, _, _, h => h
  | v :: r, o, a, w, h => by
    rw [World.setCells]
    exact below_sets hb r (o + 1) (h.setCell hb v)
theorem own_of_cells {w : World} {B b n c : Nat} {t : TypeId} {cur : Array Value} {L : List Value} (hg : w.heap[b]? = some (.cells cur t (0, 0))) (hs : cur.size = c) (hB : B ≤ b) (hl : L.length = n) (hn : n ≤ c) (hc : c ≤ maxLen) (h : ∀ j v, L[j]? = some v → w.cell? ⟨b, j, none⟩ = some v) :
    w.ownsRow B t 1 (.slice (some ⟨b, 0, none⟩) n c) n L := by
  refine ⟨by omega, .inr ⟨b, c, cur, rfl, hB, hg, hn, hc, by omega, ?_⟩⟩
  apply List.ext_getElem?
  intro j
  rw [List.getElem?_take]
  by_cases hj : j < n
  · rw [if_pos (by omega)]
    have hjl : j < L.length := by omega
    have h2 := h j L[j] (List.getElem?_eq_getElem hjl)
    rw [cell_of_row w b j cur t (0, 0) hg] at h2
    rw [List.getElem?_eq_getElem hjl, ← h2]
    simp
  · rw [if_neg (by omega), List.getElem?_eq_none (by omega)]
theorem ins_get (xs ys : List Value) (i : Nat) (hi : i ≤ xs.length) (j : Nat) (v : Value) (h : (xs.take i ++ ys ++ xs.drop i)[j]? = some v) :
    (j < i ∧ xs[j]? = some v) ∨ (i ≤ j ∧ j < i + ys.length ∧ ys[j - i]? = some v) ∨ (i + ys.length ≤ j ∧ (xs.drop i)[j - (i + ys.length)]? = some v) := by
  have ht : (xs.take i).length = i := by rw [List.length_take]; omega
  by_cases h1 : j < i
  · left
    rw [List.append_assoc, List.getElem?_append_left (by omega), List.getElem?_take, if_pos h1] at h
    exact ⟨h1, h⟩
  · by_cases h2 : j < i + ys.length
    · right; left
      rw [List.getElem?_append_left (by rw [List.length_append]; omega), List.getElem?_append_right (by omega), ht] at h
      exact ⟨by omega, h2, h⟩
    · right; right
      rw [List.getElem?_append_right (by rw [List.length_append]; omega), List.length_append, ht] at h
      exact ⟨by omega, h⟩
theorem own_block {w : World} {B : Nat} {e : TypeId} {v : Value} {n : Nat} {xs : List Value} (h : w.ownsRow B e 1 v n xs) (hn : 0 < n) : ∃ g c cur, v = .slice (some ⟨g, 0, none⟩) n c ∧ B ≤ g ∧ g < w.heap.size ∧ w.heap[g]? = some (.cells cur e (0, 0)) ∧ cur.size = c ∧ n ≤ c ∧ c ≤ maxLen ∧ xs.length = n ∧ ∀ j u, xs[j]? = some u → w.cell? ⟨g, j, none⟩ = some u := by
  have hl := h.lt
  have hx := h.1
  have h0 := h
  rcases h.2 with ⟨_, e1⟩ | ⟨g, cap, cur, hv, hb, hg, h1, h2, h3, _⟩
  · omega
  · subst hv
    refine ⟨g, cap, cur, rfl, hb, (hl g rfl).2, hg, by omega, h1, h2, by omega, fun j u hj => ?_⟩
    have := h0.cells (g := g) rfl j u hj
    rwa [show (⟨g, 0, none⟩ : Addr).add j = ⟨g, j, none⟩ by unfold Addr.add; split <;> simp_all] at this

def InsPost (B : Nat) (w : World) (i : Nat) (xs ys : List Int) (e : Ending) (w' : World) : Prop :=
  (∃ v', e = .returned v' ∧ w'.ownsRow B 5 1 v' (xs.length + ys.length) ((xs.take i ++ ys ++ xs.drop i).map (Value.int .u8))) ∧ Below B w w'

set_option maxHeartbeats 4000000 in
set_option maxRecDepth 100000 in
/-- No values: the slice itself. -/
theorem ins_none (B i : Nat) (sv uv : Value) (xs : List Int) (w : World) (ho : w.ownsRow B 5 1 sv xs.length (xs.map (Value.int .u8))) (hu : w.ownsRow B 5 1 uv 0 []) (hi : i ≤ xs.length) :
    Calls Tryz.prog 45 #[sv, .int .i64 i, uv] w (InsPost B w i xs []) := by
  obtain ⟨a, c, rfl, h1, h2⟩ := own_shape ho
  obtain ⟨a2, c2, rfl, _, _⟩ := own_shape hu
  unfold maxLen at h2
  have HF : Hid (InsPost B w i xs [] (.returned (.slice a xs.length c)) w) := ⟨⟨_, rfl, by rw [List.append_nil, List.take_append_drop]; exact ho⟩, Below.refl _ _⟩
  generalize InsPost B w i xs [] = Q at *
  have hnil : a = none → c = 0 := by
    rintro rfl
    rcases ho.2 with ⟨e0, _⟩ | ⟨g, _, _, e0, _⟩
    · injection e0
    · injection e0 with e0; cases e0
  clear ho hu
  generalize xs.length = n at *
  cases a with
  | none =>
    obtain rfl := hnil rfl
    obtain rfl : n = 0 := by omega
    obtain rfl : i = 0 := by omega
    go_enter Tryz.func45, Tryz.ntmps45
    go_wp2_with fail

    (try go_ret)
    exact HF.out
  | some ad =>
    by_cases hc : c = i
    · subst hc
      go_enter Tryz.func45, Tryz.ntmps45
      go_wp2_with fail
      (try go_ret)
      exact HF.out
    · go_enter Tryz.func45, Tryz.ntmps45
      go_wp2_with fail
      (try go_ret)
      exact HF.out

set_option maxHeartbeats 4000000 in
set_option maxRecDepth 100000 in
/-- At the end: they are appended. -/
theorem ins_end (B : Nat) (sv uv : Value) (xs ys : List Int) (w : World) (ho : w.ownsRow B 5 1 sv xs.length (xs.map (Value.int .u8))) (hu : w.ownsRow B 5 1 uv ys.length (ys.map (Value.int .u8))) (hy : 0 < ys.length) (hB : B ≤ w.heap.size) (hl : xs.length + ys.length ≤ 100000) :
    Calls Tryz.prog 45 #[sv, .int .i64 xs.length, uv] w (InsPost B w xs.length xs ys) := by
  obtain ⟨a, c, rfl, h1, h2⟩ := own_shape ho
  obtain ⟨g, c2, cur, rfl, hg1, hg2, hg3, hg4, hg5, hg6, hg7, hg8⟩ := own_block hu hy
  unfold maxLen at h2 hg6
  have HF : Hid (∀ v' w', w'.ownsRow B 5 1 v' (xs.length + ys.length) ((xs ++ ys).map (Value.int .u8)) → Below B w w' → InsPost B w xs.length xs ys (.returned v') w') := fun v' w' h3 h4 => ⟨⟨_, rfl, by rw [List.take_length, List.drop_length, List.append_nil]; exact h3⟩, h4⟩
  generalize InsPost B w xs.length xs ys = Q at *
  have hnil : a = none → c = 0 := by
    rintro rfl
    rcases ho.2 with ⟨e0, _⟩ | ⟨g, _, _, e0, _⟩
    · injection e0
    · injection e0 with e0; cases e0
  have HO := Lib.hid ho; clear ho
  have HC : Hid (∀ j, j < ys.length → w.cell? ((⟨g, 0, none⟩ : Addr).add j) = some (.int .u8 (ys.getD j 0))) := fun j hj => by
    rw [show (⟨g, 0, none⟩ : Addr).add j = ⟨g, j, none⟩ by unfold Addr.add; split <;> simp_all]
    exact hg8 j _ (by simp [List.getD, hj])
  clear hu hg3 hg8 hg7
  generalize hn : xs.length = n at *
  have HN := Lib.hid hn; clear hn
  generalize hm : ys.length = m at *
  have HM := Lib.hid hm; clear hm
  have hmz : ¬ ((m : Int) = 0) := by omega
  have hmb : ((m : Int) == 0) = false := by simp; omega
  cases a with
  | none =>
    obtain rfl := hnil rfl
    obtain rfl : n = 0 := by omega
    go_enter Tryz.func45, Tryz.ntmps45
    go_wp2_with (at_builtin; refine wpList_appM (Value.int .u8) 0 22 5 (.int .u8 0) 1 Tryz.underlying22 infoU8 rfl (by decide) (fun _ => rfl) rfl _ _ rfl w B _ _ xs ⟨g, 0, none⟩ m c2 ys HO.out hB (by omega) HM.out HC.out rfl rfl ?_; intro v' w' h3 h4)
    (try go_ret)
    exact HF.out _ _ h3 h4
  | some ad =>
    by_cases hc : c = n
    · subst hc
      go_enter Tryz.func45, Tryz.ntmps45
      go_wp2_with (at_builtin; refine wpList_appM (Value.int .u8) 0 22 5 (.int .u8 0) 1 Tryz.underlying22 infoU8 rfl (by decide) (fun _ => rfl) rfl _ _ rfl w B _ _ xs ⟨g, 0, none⟩ m c2 ys HO.out hB (by omega) HM.out HC.out rfl rfl ?_; intro v' w' h3 h4)
      (try go_ret)
      exact HF.out _ _ h3 h4
    · go_enter Tryz.func45, Tryz.ntmps45
      go_wp2_with (at_builtin; refine wpList_appM (Value.int .u8) 0 22 5 (.int .u8 0) 1 Tryz.underlying22 infoU8 rfl (by decide) (fun _ => rfl) rfl _ _ rfl w B _ _ xs ⟨g, 0, none⟩ m c2 ys HO.out hB (by omega) HM.out HC.out rfl rfl ?_; intro v' w' h3 h4)
      (try go_ret)
      exact HF.out _ _ h3 h4
end Go.Proofs.YtfoohdknjacenaaGreatDoor

namespace Go.Proofs.YtfoohdknjacenaaGreatDoor
open Go.RowKit Go.Lib

theorem sizeU8 (w : World) : (Go.sizeOf 5).run Tryz.prog w = .ok 1 w := by
  obtain ⟨i0, hi, _, h1, _⟩ := info_parts infoU8
  have := run_sizeOf (w := w) hi
  rwa [show Tryz.prog.cellsOf 5 = 1 by kernel_rfl] at this
theorem shape_blk {w : World} {b : Nat} {cur : Array Value} {t : TypeId} {fz : Nat × Nat} (h : w.heap[b]? = some (.cells cur t fz)) : w.shape? b = some (t, cur.size) := by simp [World.shape?, h]
theorem froz_blk {w : World} {b o : Nat} {cur : Array Value} {t : TypeId} (h : w.heap[b]? = some (.cells cur t (0, 0))) : w.frozen? ⟨b, o, none⟩ = false := by simp [World.frozen?, h]
theorem u8_one (xs : List Int) : ∀ v ∈ xs.map (Value.int .u8), v.oneCell' = true := fun v hv => by
  obtain ⟨x, _, rfl⟩ := List.mem_map.1 hv
  rfl

set_option maxHeartbeats 4000000 in
set_option maxRecDepth 100000 in
/-- There is room: in place. -/
theorem ins_shift (b n c i vb m vc : Nat) (cs vs : List Value) (w : World) (hi : i < n) (hm : 0 < m) (hroom : n + m ≤ c) (hc63 : c ≤ 9223372036854775807) (hvb : vb ≠ b) (hcl : cs.length = n) (hvl : vs.length = m)
    (hcs : ∀ j v, cs[j]? = some v → w.cell? ⟨b, j, none⟩ = some v) (hsp : ∀ j, j < n + m → (w.cell? ⟨b, j, none⟩).isSome = true) (hfz : ∀ j, w.frozen? ⟨b, j, none⟩ = false)
    (hvs : ∀ j v, vs[j]? = some v → w.cell? ⟨vb, j, none⟩ = some v) (h1c : ∀ v ∈ cs, v.oneCell' = true) (h1v : ∀ v ∈ vs, v.oneCell' = true)
    (tA tB : TypeId) (kA kB : Nat) (hsa : w.shape? vb = some (tA, kA)) (hsb : w.shape? b = some (tB, kB)) (hkB : kB ≠ 0) (hfa : w.frozen? ⟨vb, 0, none⟩ = false) (hfe : w.frozen? ⟨vb, kA, none⟩ = false) :
    Calls Tryz.prog 45 #[.slice (some ⟨b, 0, none⟩) n c, .int .i64 i, .slice (some ⟨vb, 0, none⟩) m vc] w fun e w' =>
      e = .returned (.slice (some ⟨b, 0, none⟩) (n + m) c) ∧ w' = (w.drew.setCells b (i + m) (cs.drop i)).setCells b i vs := by
  have hsz : (Tryz.prog.info? 5).map (·.size) = some 1 := by
    obtain ⟨i0, hi0, _, h1, _⟩ := info_parts infoU8
    rw [hi0]; simp [h1]
  have hov : ∀ lb cb, (callFunc 68 #[.slice (some ⟨vb, 0, none⟩) m vc, .slice (some ⟨b, i + m, none⟩) lb cb]).run Tryz.prog w = .ok (.value (.bool false)) w := fun lb cb => by
    rw [run_callFunc_extern Tryz.func68 (by kernel_rfl) (by kernel_rfl) (by kernel_rfl) (e := Extern.SlicesOverlaps.overlaps #[22, 22] #[4]) (by kernel_rfl),
      Lib.run_overlaps_apart w 22 4 5 Tryz.underlying22 1 sizeU8 ⟨vb, 0, none⟩ ⟨b, i + m, none⟩ m vc lb cb hvb tA tB kA kB hsa hsb hkB hfa hfe]
    rfl
  have hdl : (cs.drop i).length = n - i := by rw [List.length_drop, hcl]
  have hz1 : ¬ ((m : Int) = 0) := by omega
  have hz2 : ¬ ((i : Int) = (n : Int)) := by omega
  have hz3 : decide ((c : Int) < (n : Int) + (m : Int)) = false := by simp; omega
  have hw1 : IntKind.i64.wrap ((i : Int) + (m : Int)) = (i : Int) + (m : Int) := by rw [IntKind.wrap_i64]; omega
  have hb1 : (0 : Int) ≤ (i : Int) + (m : Int) := by omega
  have hin : i ≤ n := by omega
  have htn : ((i : Int) + (m : Int)).toNat = i + m := by omega
  have hb2 : ¬ (c = i + m) := by omega
  have hb3 : (i : Int) ≤ (n : Int) + (m : Int) := by omega
  have hb4 : ¬ (c = i) := by omega
  have hcp1 : ∀ ty dc sc, (Builtin.copy_ #[22, 22] ty #[.slice (some ⟨b, i + m, none⟩) (n + m - (i + m)) dc, .slice (some ⟨b, i, none⟩) (n + m - i) sc]).run Tryz.prog w.drew = .ok (goInt (cs.drop i).length) (w.drew.setCells b (i + m) (cs.drop i)) := fun ty dc sc =>
    run_copy_cells w.drew _ _ ty 5 b (i + m) (n + m - (i + m)) dc ⟨b, i, none⟩ (n + m - i) sc (cs.drop i) Tryz.underlying22 hsz (by rw [hdl]; simp only [Nat.min_def]; split <;> omega)
      (fun j v hj => by rw [Addr.add_lit]; exact hcs (i + j) v (by rwa [List.getElem?_drop] at hj))
      (fun j hj => hsp _ (by omega)) (fun j hj => hfz _) (fun v hv => h1c v (List.mem_of_mem_drop hv))
  obtain ⟨W1, hW1⟩ : ∃ W1, W1 = w.drew.setCells b (i + m) (cs.drop i) := ⟨_, rfl⟩
  have hsp1 : ∀ k, k < n + m → (W1.cell? ⟨b, k, none⟩).isSome = true := fun k hk => by
    rw [hW1]
    exact Go.Proofs.isSome_setCells b (cs.drop i) (i + m) w.drew (fun j hj => hsp (i + m + j) (by omega)) k (hsp k hk)
  have hcp2 : ∀ (W : World), (∀ x, W.cell? x = W1.cell? x) → (∀ x, W.frozen? x = W1.frozen? x) → ∀ ty dc, (Builtin.copy_ #[22, 22] ty #[.slice (some ⟨b, i, none⟩) (n + m - i) dc, .slice (some ⟨vb, 0, none⟩) m vc]).run Tryz.prog W = .ok (goInt vs.length) (W.setCells b i vs) := fun W hWc hWf ty dc =>
    run_copy_cells W _ _ ty 5 b i (n + m - i) dc ⟨vb, 0, none⟩ m vc vs Tryz.underlying22 hsz (by rw [hvl]; simp only [Nat.min_def]; split <;> omega)
      (fun j v hj => by
        rw [Addr.add_lit, hWc, hW1, World.cell?_setCells_out b _ _ _ _ (fun h _ => absurd h hvb), Nat.zero_add]
        exact hvs j v hj)
      (fun j hj => by rw [hWc]; exact hsp1 _ (by omega)) (fun j hj => by rw [hWf, hW1, World.frozen?_setCells]; exact hfz _) h1v
  rw [← hW1] at hcp1
  go_enter Tryz.func45, Tryz.ntmps45
  go_wp2_with (simp only [hov])
  go_region_law (refine Go.Proofs.step_copy_runI rfl _ _ 22 22 rfl _ _ (by simp [Act.eval, Act.put]) (by simp [Act.eval, Act.put]) (hcp1 _ _ _) ?_)
  go_wp2_with (at_builtin; refine Go.Proofs.wpList_copy_runI _ rfl _ _ 22 22 rfl _ _ rfl rfl (hcp2 _ (fun _ => rfl) (fun _ => rfl) _ _) ?_)
  (try go_ret)
  first | exact ⟨rfl, rfl⟩ | exact ⟨rfl, by rw [hW1]⟩

set_option maxHeartbeats 4000000 in
set_option maxRecDepth 100000 in
/-- No room: a new row. -/
theorem ins_grow (b n c i vb m vc : Nat) (cs vs : List Value) (w : World) (hi : i < n) (hm : 0 < m) (hnc : n ≤ c) (hroom : c < n + m) (hbig : n + m ≤ 1000000) (hcl : cs.length = n) (hvl : vs.length = m)
    (hcs : ∀ j v, cs[j]? = some v → w.cell? ⟨b, j, none⟩ = some v) (hvs : ∀ j v, vs[j]? = some v → w.cell? ⟨vb, j, none⟩ = some v) (h1c : ∀ v ∈ cs, v.oneCell' = true) (h1v : ∀ v ∈ vs, v.oneCell' = true) :
    Calls Tryz.prog 45 #[.slice (some ⟨b, 0, none⟩) n c, .int .i64 i, .slice (some ⟨vb, 0, none⟩) m vc] w fun e w' =>
      e = .returned (.slice (some ⟨w.heap.size, 0, none⟩) (n + m) (grownCap w (n + m) c 5)) ∧
      w' = (((w.alloc (.cells ((cs.take i).toArray ++ Builtin.zeroCells (Value.int .u8 0).cells (n + m - i) ++ Builtin.zeroCells (Value.int .u8 0).cells (grownCap w (n + m) c 5 - (n + m))) 5)).drew.setCells w.heap.size i vs).drew).setCells w.heap.size (i + m) (cs.drop i) := by
  obtain ⟨i0, hi0, hz0, hzs, hzb⟩ := info_parts infoU8
  have hz1 : ¬ ((m : Int) = 0) := by omega
  have hz2 : ¬ ((i : Int) = (n : Int)) := by omega
  have hz3 : (c : Int) < (n : Int) + (m : Int) := by omega
  have hsz : (Tryz.prog.info? 5).map (·.size) = some 1 := by rw [hi0]; simp [hzs]
  have hbw : b < w.heap.size := World.block_lt_of_cell? w ⟨b, 0, none⟩ (hcs 0 _ (List.getElem?_eq_getElem (by omega)))
  have hvw : vb < w.heap.size := World.block_lt_of_cell? w ⟨vb, 0, none⟩ (hvs 0 _ (List.getElem?_eq_getElem (by omega)))
  have hkk : (n : Int) + (m : Int) - (i : Int) = ((n + m - i : Nat) : Int) := by omega
  have hik : i + (n + m - i) = n + m := by omega
  have hold : (Builtin.firstCells i0.size i (.slice (some ⟨b, 0, none⟩) i c)).run Tryz.prog w.drew = .ok (cs.take i).toArray w.drew := by
    rw [hzs]
    exact run_firstCells_some w.drew 1 i ⟨b, 0, none⟩ i c (cs.take i) (by rw [List.length_take]; omega) (fun j v hj => by
      rw [Addr.add_lit, Nat.zero_add]
      rw [List.getElem?_take] at hj
      split at hj
      · exact hcs j v hj
      · cases hj)
  have hrz : ∀ ty, (Builtin.append_ #[22, 3] ty #[.slice (some ⟨b, 0, none⟩) i c, .int .i64 ((n : Int) + (m : Int) - (i : Int))]).run Tryz.prog w =
      .ok (.slice (some ⟨w.heap.size, 0, none⟩) (n + m) (grownCap w (n + m) c 5)) (w.drew.alloc (.cells ((cs.take i).toArray ++ Builtin.zeroCells (Value.int .u8 0).cells (n + m - i) ++ Builtin.zeroCells (Value.int .u8 0).cells (grownCap w (n + m) c 5 - (n + m))) 5)) := fun ty => by
    have h := Lib.run_append_grow_zeros w 22 3 ty 5 i0 _ .i64 .i64 Tryz.underlying22 Tryz.underlying3 hi0 hz0 (some ⟨b, 0, none⟩) i c (cs.take i) hold (n + m - i) (by omega) (by omega) (by omega) (by omega) (by rw [hzb]; omega) (by rw [hzb, hik]; exact growslice_fits hroom (by omega))
    rw [hik] at h
    rw [hkk]
    exact h
  obtain ⟨G, hG⟩ : ∃ G, G = grownCap w (n + m) c 5 := ⟨_, rfl⟩
  obtain ⟨ROW, hROW⟩ : ∃ ROW : Array Value, ROW = (cs.take i).toArray ++ Builtin.zeroCells (Value.int .u8 0).cells (n + m - i) ++ Builtin.zeroCells (Value.int .u8 0).cells (G - (n + m)) := ⟨_, rfl⟩
  rw [← hG] at hrz ⊢
  rw [← hROW] at hrz ⊢
  have hRl : n + m ≤ ROW.size := by
    rw [hROW]
    simp [Builtin.zeroCells, Value.cells]
    omega
  obtain ⟨W1, hW1⟩ : ∃ W1, W1 = w.drew.alloc (.cells ROW 5) := ⟨_, rfl⟩
  rw [← hW1] at hrz
  have hN : ∀ j, j < n + m → (W1.cell? ⟨w.heap.size, j, none⟩).isSome = true := fun j hj => by
    rw [hW1, World.cell?_alloc_at (w := w.drew) ROW _ w.heap.size j rfl, Array.getElem?_eq_getElem (by omega)]; rfl
  have hNf : ∀ j, W1.frozen? ⟨w.heap.size, j, none⟩ = false := fun j => by rw [hW1]; exact World.frozen?_alloc_at (w := w.drew) ROW _ w.heap.size j rfl
  have hOb : ∀ j v, w.cell? ⟨b, j, none⟩ = some v → W1.cell? ⟨b, j, none⟩ = some v := fun j v h => by rw [hW1, World.cell?_alloc_lt w.drew _ ⟨b, j, none⟩ hbw]; exact h
  have hOv : ∀ j v, w.cell? ⟨vb, j, none⟩ = some v → W1.cell? ⟨vb, j, none⟩ = some v := fun j v h => by rw [hW1, World.cell?_alloc_lt w.drew _ ⟨vb, j, none⟩ hvw]; exact h
  have hcpA : ∀ (W : World), (∀ x, W.cell? x = W1.cell? x) → (∀ x, W.frozen? x = W1.frozen? x) → ∀ ty dc, (Builtin.copy_ #[22, 22] ty #[.slice (some ⟨w.heap.size, i, none⟩) (n + m - i) dc, .slice (some ⟨vb, 0, none⟩) m vc]).run Tryz.prog W = .ok (goInt vs.length) (W.setCells w.heap.size i vs) := fun W hWc hWf ty dc =>
    run_copy_cells W _ _ ty 5 w.heap.size i (n + m - i) dc ⟨vb, 0, none⟩ m vc vs Tryz.underlying22 hsz (by rw [hvl]; simp only [Nat.min_def]; split <;> omega)
      (fun j v hj => by rw [Addr.add_lit, Nat.zero_add, hWc]; exact hOv _ v (hvs j v hj))
      (fun j hj => by rw [hWc]; exact hN _ (by omega)) (fun j hj => by rw [hWf]; exact hNf _) h1v
  have hGn : n + m ≤ G := by rw [hG]; exact grownCap_ge w _ _ _
  have hG63 : G ≤ 9223372036854775807 := by
    have := grownCap_le_maxLen w (n + m) c 5 (by unfold maxLen; omega)
    rw [← hG] at this
    unfold maxLen at this
    omega
  have hGi : ¬ (G = i) := by omega
  have hGim : ¬ (G = i + m) := by omega
  have hci : ¬ (c = i) := by omega
  have hbN : b ≠ w.heap.size := by omega
  have hdl : (cs.drop i).length = n - i := by rw [List.length_drop, hcl]
  have hcpB : ∀ (W : World), (∀ x, W.cell? x = (W1.setCells w.heap.size i vs).cell? x) → (∀ x, W.frozen? x = (W1.setCells w.heap.size i vs).frozen? x) → ∀ ty dc sc, (Builtin.copy_ #[22, 22] ty #[.slice (some ⟨w.heap.size, i + m, none⟩) (n + m - (i + m)) dc, .slice (some ⟨b, i, none⟩) (n - i) sc]).run Tryz.prog W = .ok (goInt (cs.drop i).length) (W.setCells w.heap.size (i + m) (cs.drop i)) := fun W hWc hWf ty dc sc =>
    run_copy_cells W _ _ ty 5 w.heap.size (i + m) (n + m - (i + m)) dc ⟨b, i, none⟩ (n - i) sc (cs.drop i) Tryz.underlying22 hsz (by rw [hdl]; simp only [Nat.min_def]; split <;> omega)
      (fun j v hj => by
        rw [Addr.add_lit, hWc, World.cell?_setCells_out _ _ _ _ _ (fun h _ => absurd h hbN)]
        exact hOb _ v (hcs (i + j) v (by rwa [List.getElem?_drop] at hj)))
      (fun j hj => by rw [hWc]; exact Go.Proofs.isSome_setCells w.heap.size vs i W1 (fun t ht => hN (i + t) (by omega)) (i + m + j) (hN _ (by omega)))
      (fun j hj => by rw [hWf, World.frozen?_setCells]; exact hNf _) (fun v hv => h1c v (List.mem_of_mem_drop hv))
  subst hW1
  have hE1 : ∀ x, ((w.alloc (.cells ROW 5)).drew).cell? x = (w.drew.alloc (.cells ROW 5)).cell? x := fun x => rfl
  have hE2 : ∀ x, ((w.alloc (.cells ROW 5)).drew).frozen? x = (w.drew.alloc (.cells ROW 5)).frozen? x := fun x => rfl
  have hF1 : ∀ x, (((w.alloc (.cells ROW 5)).drew.setCells w.heap.size i vs).drew).cell? x = ((w.drew.alloc (.cells ROW 5)).setCells w.heap.size i vs).cell? x := fun x => rfl
  have hF2 : ∀ x, (((w.alloc (.cells ROW 5)).drew.setCells w.heap.size i vs).drew).frozen? x = ((w.drew.alloc (.cells ROW 5)).setCells w.heap.size i vs).frozen? x := fun x => rfl
  have hw1 : IntKind.i64.wrap ((i : Int) + (m : Int)) = (i : Int) + (m : Int) := by rw [IntKind.wrap_i64]; omega
  have hb1 : (0 : Int) ≤ (i : Int) + (m : Int) := by omega
  have hin : i ≤ n := by omega
  have htn : ((i : Int) + (m : Int)).toNat = i + m := by omega
  have hb3 : (i : Int) ≤ (n : Int) := by omega
  clear hkk hik hold hROW hG hRl
  go_enter Tryz.func45, Tryz.ntmps45
  go_wp2_with (first
    | (at_builtin; refine Lib.wpList_append_run _ rfl _ _ _ _ rfl _ _ rfl rfl _ _ (hrz _) ?_)
    | (at_builtin; refine Go.Proofs.wpList_copy_runI _ rfl _ _ 22 22 rfl _ _ rfl rfl (hcpA _ hE1 hE2 _ _) ?_))
  go_region_law (refine Go.Proofs.step_copy_runI rfl _ _ 22 22 rfl (.slice (some ⟨w.heap.size, i + m, none⟩) (n + m - (i + m)) (G - (i + m))) (.slice (some ⟨b, i, none⟩) (n - i) (c - i)) (by simp [Act.eval, Act.put]) (by simp [Act.eval, Act.put]) (hcpB _ hF1 hF2 3 (G - (i + m)) (c - i)) ?_)
  go_wp2
  (try go_ret)
  exact ⟨rfl, rfl⟩

/-- slices.Insert at []byte. -/
theorem insert_any (B i : Nat) (sv uv : Value) (xs ys : List Int) (w : World) (ho : w.ownsRow B 5 1 sv xs.length (xs.map (Value.int .u8))) (hu : w.ownsRow B 5 1 uv ys.length (ys.map (Value.int .u8))) (hd : ∀ g, uv.ownBlock = some g → sv.ownBlock ≠ some g) (hB : B ≤ w.heap.size) (hi : i ≤ xs.length) (hl : xs.length + ys.length ≤ 100000) :
    Calls Tryz.prog 45 #[sv, .int .i64 i, uv] w (InsPost B w i xs ys) := by
  rcases Nat.eq_zero_or_pos ys.length with h0 | h0
  · obtain rfl : ys = [] := List.eq_nil_of_length_eq_zero h0
    exact ins_none B i sv uv xs w ho hu hi
  by_cases hie : i = xs.length
  · subst hie
    exact ins_end B sv uv xs ys w ho hu h0 hB hl
  obtain ⟨b, c, cur, rfl, hb1, hb2, hb3, hb4, hb5, hb6, hb7, hb8⟩ := own_block ho (by omega)
  obtain ⟨vb, vc, cur2, rfl, hv1, hv2, hv3, hv4, hv5, hv6, hv7, hv8⟩ := own_block hu h0
  have hne : vb ≠ b := fun e => hd vb rfl (by rw [e]; rfl)
  have hlen : (xs.take i ++ ys ++ xs.drop i).length = xs.length + ys.length := by simp; omega
  have hmap : (xs.take i ++ ys ++ xs.drop i).map (Value.int .u8) = (xs.map (Value.int .u8)).take i ++ ys.map (Value.int .u8) ++ (xs.map (Value.int .u8)).drop i := by simp [List.map_take, List.map_drop]
  by_cases hroom : xs.length + ys.length ≤ c
  · refine (ins_shift b xs.length c i vb ys.length vc (xs.map (Value.int .u8)) (ys.map (Value.int .u8)) w (by omega) h0 hroom (by unfold maxLen at hb6; omega) hne (by simp) (by simp) hb8 (fun j hj => by rw [cell_of_row w b j cur _ (0, 0) hb3, Array.getElem?_eq_getElem (by omega)]; rfl) (fun j => froz_blk hb3) hv8 (u8_one xs) (u8_one ys) _ _ _ _ (shape_blk hv3) (shape_blk hb3) (by omega) (froz_blk hv3) (froz_blk hv3)).mono ?_
    rintro e w' ⟨rfl, rfl⟩
    have hbd : Below B w w.drew := (Below.refl _ _).drew
    refine ⟨⟨_, rfl, ?_⟩, below_sets hb1 _ _ (below_sets hb1 _ _ hbd)⟩
    obtain ⟨cur3, h3, h4⟩ := setCells_blk b ((xs.map (Value.int .u8)).drop i) (i + ys.length) w.drew cur _ _ hb3
    obtain ⟨cur4, h5, h6⟩ := setCells_blk b (ys.map (Value.int .u8)) i _ cur3 _ _ h3
    refine own_of_cells h5 (by omega) hb1 (by rw [List.length_map, hlen]) hroom hb6 ?_
    rw [hmap]
    intro j v hj
    have hsome : ∀ k, k < c → (w.drew.cell? ⟨b, k, none⟩).isSome = true := fun k hk => by
      show (w.cell? ⟨b, k, none⟩).isSome = true
      rw [cell_of_row w b k cur _ (0, 0) hb3, Array.getElem?_eq_getElem (by omega)]; rfl
    have hdl : ((xs.map (Value.int .u8)).drop i).length = xs.length - i := by simp
    have hsome2 : ∀ k, k < c → ((w.drew.setCells b (i + ys.length) ((xs.map (Value.int .u8)).drop i)).cell? ⟨b, k, none⟩).isSome = true := fun k hk => Go.Proofs.isSome_setCells b _ _ _ (fun j hj => hsome _ (by rw [hdl] at hj; omega)) k (hsome k hk)
    rcases ins_get _ _ i (by simp; omega) j v hj with ⟨h7, h8⟩ | ⟨h7, h8, h9⟩ | ⟨h7, h8⟩
    · rw [World.cell?_setCells_out b _ _ _ _ (fun _ _ => .inl h7), World.cell?_setCells_out b _ _ _ _ (fun _ _ => .inl (by show j < _; omega))]
      exact hb8 j v h8
    · have hjl : j - i < (ys.map (Value.int .u8)).length := by omega
      have := World.cell?_setCells_in b (ys.map (Value.int .u8)) i _ (fun k hk => hsome2 (i + k) (by simp at hk; omega)) (j - i) hjl
      rw [show i + (j - i) = j by omega] at this
      rw [this]
      rw [List.getElem?_eq_getElem hjl] at h9
      exact h9
    · have hjl : j - (i + ys.length) < ((xs.map (Value.int .u8)).drop i).length := by
        rcases Nat.lt_or_ge (j - (i + ys.length)) ((xs.map (Value.int .u8)).drop i).length with h | h
        · exact h
        · rw [List.length_map] at h8; rw [List.getElem?_eq_none h] at h8; cases h8
      rw [List.length_map] at h7 h8
      rw [World.cell?_setCells_out b _ _ _ _ (fun _ _ => .inr (by show _ ≤ j; rw [List.length_map]; exact h7))]
      have := World.cell?_setCells_in b ((xs.map (Value.int .u8)).drop i) (i + ys.length) w.drew (fun k hk => hsome (i + ys.length + k) (by rw [hdl] at hk; omega)) (j - (i + ys.length)) hjl
      rw [show i + ys.length + (j - (i + ys.length)) = j by omega] at this
      rw [this]
      rw [List.getElem?_eq_getElem hjl] at h8
      exact h8
  · refine (ins_grow b xs.length c i vb ys.length vc (xs.map (Value.int .u8)) (ys.map (Value.int .u8)) w (by omega) h0 hb5 (by omega) (by omega) (by simp) (by simp) hb8 hv8 (u8_one xs) (u8_one ys)).mono ?_
    rintro e w' ⟨rfl, rfl⟩
    have hGn := grownCap_ge w (xs.length + ys.length) c 5
    have hGm := grownCap_le_maxLen w (xs.length + ys.length) c 5 (by unfold maxLen; omega)
    generalize grownCap w (xs.length + ys.length) c 5 = G at *
    have hrs : (((xs.map (Value.int .u8)).take i).toArray ++ Builtin.zeroCells (Value.int .u8 0).cells (xs.length + ys.length - i) ++ Builtin.zeroCells (Value.int .u8 0).cells (G - (xs.length + ys.length))).size = G := by
      simp [Builtin.zeroCells, Value.cells]; omega
    have hrk : ∀ j, j < i → (((xs.map (Value.int .u8)).take i).toArray ++ Builtin.zeroCells (Value.int .u8 0).cells (xs.length + ys.length - i) ++ Builtin.zeroCells (Value.int .u8 0).cells (G - (xs.length + ys.length)))[j]? = (xs.map (Value.int .u8))[j]? := fun j hj => by
      rw [Array.getElem?_append_left (by simp [Builtin.zeroCells, Value.cells]; omega), Array.getElem?_append_left (by simp; omega)]
      simp [hj]
    generalize ((xs.map (Value.int .u8)).take i).toArray ++ Builtin.zeroCells (Value.int .u8 0).cells (xs.length + ys.length - i) ++ Builtin.zeroCells (Value.int .u8 0).cells (G - (xs.length + ys.length)) = ROW at *
    have hbd : Below B w (w.alloc (.cells ROW 5)).drew := ((Below.refl _ _).alloc hB _).drew
    refine ⟨⟨_, rfl, ?_⟩, below_sets hB _ _ (below_sets hB _ _ hbd).drew⟩
    have hg0 : (w.alloc (.cells ROW 5)).drew.heap[w.heap.size]? = some (.cells ROW 5 (0, 0)) := heap_alloc_new w _
    obtain ⟨cur3, h3, h4⟩ := setCells_blk w.heap.size (ys.map (Value.int .u8)) i _ ROW _ _ hg0
    obtain ⟨cur4, h5, h6⟩ := setCells_blk w.heap.size ((xs.map (Value.int .u8)).drop i) (i + ys.length) ((w.alloc (.cells ROW 5)).drew.setCells w.heap.size i (ys.map (Value.int .u8))).drew cur3 _ _ h3
    refine own_of_cells h5 (by omega) hB (by rw [List.length_map, hlen]) hGn hGm ?_
    rw [hmap]
    intro j v hj
    have hat : ∀ k, (w.alloc (.cells ROW 5)).drew.cell? ⟨w.heap.size, k, none⟩ = ROW[k]? := fun k => by
      rw [cell_of_row _ w.heap.size k ROW 5 (0, 0) hg0]
    have hsome : ∀ k, k < G → ((w.alloc (.cells ROW 5)).drew.cell? ⟨w.heap.size, k, none⟩).isSome = true := fun k hk => by
      rw [hat, Array.getElem?_eq_getElem (by omega)]; rfl
    have hdl : ((xs.map (Value.int .u8)).drop i).length = xs.length - i := by simp
    have hsome2 : ∀ k, k < G → (((w.alloc (.cells ROW 5)).drew.setCells w.heap.size i (ys.map (Value.int .u8))).drew.cell? ⟨w.heap.size, k, none⟩).isSome = true := fun k hk => Go.Proofs.isSome_setCells w.heap.size _ _ _ (fun j hj => hsome _ (by simp at hj; omega)) k (hsome k hk)
    rcases ins_get _ _ i (by simp; omega) j v hj with ⟨h7, h8⟩ | ⟨h7, h8, h9⟩ | ⟨h7, h8⟩
    · rw [World.cell?_setCells_out w.heap.size _ _ _ _ (fun _ _ => .inl (by show j < _; omega))]
      show ((w.alloc (.cells ROW 5)).drew.setCells w.heap.size i (ys.map (Value.int .u8))).cell? _ = _
      rw [World.cell?_setCells_out w.heap.size _ _ _ _ (fun _ _ => .inl h7), hat, hrk j h7]
      exact h8
    · have hjl : j - i < (ys.map (Value.int .u8)).length := by omega
      rw [World.cell?_setCells_out w.heap.size _ _ _ _ (fun _ _ => .inl (by show j < _; rw [List.length_map] at h8; exact h8))]
      show ((w.alloc (.cells ROW 5)).drew.setCells w.heap.size i (ys.map (Value.int .u8))).cell? _ = _
      have := World.cell?_setCells_in w.heap.size (ys.map (Value.int .u8)) i _ (fun k hk => hsome (i + k) (by simp at hk; omega)) (j - i) hjl
      rw [show i + (j - i) = j by omega] at this
      rw [this]
      rw [List.getElem?_eq_getElem hjl] at h9
      exact h9
    · rw [List.length_map] at h7 h8
      have hjl : j - (i + ys.length) < ((xs.map (Value.int .u8)).drop i).length := by
        rcases Nat.lt_or_ge (j - (i + ys.length)) ((xs.map (Value.int .u8)).drop i).length with h | h
        · exact h
        · rw [List.getElem?_eq_none h] at h8; cases h8
      have := World.cell?_setCells_in w.heap.size ((xs.map (Value.int .u8)).drop i) (i + ys.length) ((w.alloc (.cells ROW 5)).drew.setCells w.heap.size i (ys.map (Value.int .u8))).drew (fun k hk => hsome2 (i + ys.length + k) (by rw [hdl] at hk; omega)) (j - (i + ys.length)) hjl
      rw [show i + ys.length + (j - (i + ys.length)) = j by omega] at this
      rw [this]
      rw [List.getElem?_eq_getElem hjl] at h8
      exact h8
end Go.Proofs.YtfoohdknjacenaaGreatDoor

namespace Go.Proofs.YtfoohdknjacenaaGreatDoor
open Go.RowKit

set_option maxHeartbeats 1000000 in
theorem letter_any (e : Bool) (v : Value) (l : List Int) (w : World) (hv : Row w v l) : Calls Tryz.prog 70 #[.agg #[.bool e, v]] w fun r w' => r = .returned (.string (strOfNums (letL e))) ∧ Below w.heap.size w w' := by
  obtain ⟨a, c, rfl, _⟩ := hv
  have hB := fun x => (Below.refl w.heap.size w).alloc (Nat.le_refl _) (.cells #[.bool e, x] 51)
  have HB := Lib.hid hB; clear hB
  generalize l.length = n at *
  cases e with
  | false =>
    have hs : strOfNums (letL false) = ⟨#[97]⟩ := rfl
    rw [hs]
    go_enter Tryz.func70, Tryz.ntmps70
    go_wp2_with fail
    (try go_ret)
    exact ⟨rfl, HB.out _⟩
  | true =>
    have hs : strOfNums (letL true) = ⟨#[101]⟩ := rfl
    rw [hs]
    go_enter Tryz.func70, Tryz.ntmps70
    go_wp2_with fail
    (try go_ret)
    exact ⟨rfl, HB.out _⟩

/-- 'append(v, s...)', s a string: what lies in other blocks stays. -/
theorem wpList_appStrG {ops : Array Oper} {rest : List Oper} {o : Oper} {a : Act} {Q : Exit → Act → World → Prop} (hgd : o.guard = none) (sl x : Operand)
    (ho : o.op = .call { callee := .builtin .append, args := #[sl, x], argTypes := #[22, 9] })
    (w : World) (B : Nat) (v : Value) (n : Nat) (xs ys : List Int) (hb : Bts ys) (hown : w.ownsRow B 5 1 v n (xs.map (Value.int .u8))) (hB : B ≤ w.heap.size) (hn : n + ys.length < 1099511627776)
    (hs : a.eval sl = v) (hx : a.eval x = .string (strOfNums ys))
    (h : ∀ v' w', w'.ownsRow B 5 1 v' (n + ys.length) ((xs ++ ys).map (Value.int .u8)) → Below B w w' → (∀ k, k < w.heap.size → v.ownBlock ≠ some k → w'.heap[k]? = w.heap[k]?) → wpList Tryz.prog ops Q rest (a.put o.dst v') w') : wpList Tryz.prog ops Q (o :: rest) a w := by
  obtain ⟨i0, hi, hz0, hz1, hz2⟩ := info_parts infoU8
  refine Lib.wpList_append_own_string _ hgd sl x 22 9 ho B 5 i0 Tryz.underlying22 Tryz.underlying9 hi hz0 hz1 hz2 v n _ hs hown (strOfNums ys) hx (by rw [strOfNums_size]; unfold maxLen; omega) (by rw [strOfNums_size]; omega) hB ?_
  intro v' w' h1 h2 _
  rw [strOfNums_size, strCells_nums hb, ← List.map_append] at h1
  exact h v' w' h1 ((Below.refl B w).grown h2 hB fun k hk => (hown.lt k hk).1) (fun k hk hne => h2.block k hk (fun e => hne e.symm))

theorem getD_memB {bs : List Blk} {k : Nat} (h : k < bs.length) : bs.getD k blk0 ∈ bs := by simp [List.getD, h]
theorem take_varsT (G : List Int) (ys : List Int) (j : Nat) (h : j < ys.length) : varsT G (ys.take (j + 1)) = varsT G (ys.take j) ++ (G ++ itoaL (ys.getD j 0)) := by
  unfold varsT
  rw [List.take_succ_eq_append_getElem h, List.flatMap_append]
  simp [List.getD, h]

set_option maxRecDepth 8000 in
set_option maxHeartbeats 4000000 in
theorem blockLines_any (a : Option Addr) (c : Nat) (bs : List Blk) (w : World) (hr : BRowsAt w a c bs) (hint : ∀ b ∈ bs, ∀ l ∈ b.2, -1000000000 < l ∧ l < 1000000000) (hT : (bs.flatMap (blkT [32])).length ≤ 10000) (ht : Tabs w) :
    Calls Tryz.prog 46 #[.slice a bs.length c] w fun e w' => (∃ v, e = .returned v ∧ w'.ownsRow w.heap.size 5 1 v (bs.flatMap (blkT [32])).length ((bs.flatMap (blkT [32])).map (Value.int .u8))) ∧ Below w.heap.size w w' := by
  obtain ⟨hc1, hc2, hr⟩ := hr
  unfold maxLen at hc2
  have HR := Lib.hid hr; clear hr
  have HI := Lib.hid hint; clear hint
  have HTB := Lib.hid (fun W B (hb : Below w.heap.size w W) (hB : w.heap.size ≤ B) => ht.at B hb hB)
  clear ht
  have hk1 : ∀ k, ((bs.take k).flatMap (blkT [32])).length ≤ 10000 := fun k => Nat.le_trans (take_flat_len (blkT [32]) bs k) hT
  have hk2 : ∀ k j, k < bs.length → ((bs.take k).flatMap (blkT [32]) ++ letL (bs.getD k blk0).1 ++ varsT [32] ((bs.getD k blk0).2.take j)).length + 3 ≤ 10000 := fun k j hk => by
    have h1 := hk1 (k + 1)
    have h2 := take_flat_len (fun v => ([32] : List Int) ++ itoaL v) (bs.getD k blk0).2 j
    rw [take_flat (blkT [32]) blk0 bs k hk] at h1
    unfold blkT at h1
    simp only [List.length_append, List.length_cons, List.length_nil] at h1 ⊢
    unfold blkT varsT at *
    omega
  have HK2 := Lib.hid hk2; clear hk2
  have HTX : Hid (∀ (v : Value) (W : World) m, m = ((bs.take bs.length).flatMap (blkT [32])).length → W.ownsRow w.heap.size 5 1 v m (((bs.take bs.length).flatMap (blkT [32])).map (Value.int .u8)) → W.ownsRow w.heap.size 5 1 v (bs.flatMap (blkT [32])).length ((bs.flatMap (blkT [32])).map (Value.int .u8))) := fun v W m hm h => by
    rw [List.take_length] at h hm
    subst hm
    exact h
  have HSTEP := Lib.hid (fun k (hk : k < bs.length) => take_flat (blkT [32]) blk0 bs k hk)
  have HMEM := Lib.hid (fun k (hk : k < bs.length) => getD_memB (bs := bs) hk)
  generalize hN : bs.length = n at *
  have HN := Lib.hid hN; clear hN
  clear hT hk1
  go_enter Tryz.func46, Tryz.ntmps46
  go_wp2_with fail
  go_loopw [3, 10] (fun bv i wr => ∃ (k m : Nat) (ab : Option Addr) (cb : Nat), k ≤ n ∧ i = .int .i64 k ∧ bv = .slice ab m cb ∧ Hid (m = ((bs.take k).flatMap (blkT [32])).length ∧ wr.ownsRow w.heap.size 5 1 (.slice ab m cb) m (((bs.take k).flatMap (blkT [32])).map (Value.int .u8))) ∧ Below w.heap.size w wr) (fun _ i _ => n - (intOf i).toNat)
  case atStart => exact ⟨0, 0, none, 0, Nat.zero_le _, rfl, rfl, ⟨by simp, World.ownsRow_nil _ _ _ _⟩, Below.refl _ _⟩
  case round =>
    obtain ⟨k, m, ab, cb, hk, rfl, rfl, HRO, hzr⟩ := hrel
    have hsr := hzr.size
    by_cases hlt : k < n
    · obtain ⟨b, off, ha, hb, hc⟩ := HR.out.resolve_left (by omega)
      subst ha
      obtain ⟨g0, v, g1, hv⟩ := hc k hlt
      clear hc
      have g0' := (hzr.cell (p := ⟨b, off + k * 2, none⟩) hb).trans g0
      have g1' := (hzr.cell (p := ⟨b, off + k * 2 + 1, none⟩) hb).trans g1
      have HSS := Lib.hid (HSTEP.out k hlt)
      have HKK := Lib.hid (fun j => HK2.out k j hlt)
      have HIK := Lib.hid (HI.out _ (HMEM.out k hlt))
      clear g0 g1
      have HLE := Lib.hid (fun W (hW : Below w.heap.size w W) => letter_any (bs.getD k blk0).1 v (bs.getD k blk0).2 W (hv.keep hW))
      obtain ⟨av, cv, rfl, hcv1, hcv2, hrv⟩ := hv
      unfold maxLen at hcv2
      generalize hH : (bs.take k).flatMap (blkT [32]) = hd at *
      clear hH
      have HBE : Hid (blkT [32] (bs.getD k blk0) = letL (bs.getD k blk0).1 ++ varsT [32] (bs.getD k blk0).2 ++ [32, 48, 10]) := rfl
      generalize (bs.getD k blk0).1 = ex at *
      generalize (bs.getD k blk0).2 = ys at *
      have HRV := Lib.hid hrv; clear hrv
      generalize hml : ys.length = ml at *
      have HML := Lib.hid hml; clear hml
      have hlet : (letL ex).length = 1 := (let_tok ex).2.2.2
      have HK0 := Lib.hid (HKK.out 0)
      have hba : Below w.heap.size w (wr.alloc (.cells #[.bool ex, .slice av ml cv] 51)) := hzr.alloc hsr _
      have HBA := Lib.hid hba; clear hba
      go_wp2_with (first
        | (go_at_call 70; refine (HLE.out _ HBA.out).mono ?_; rintro e2 w2 ⟨rfl, hb2⟩; have hz2 := HBA.out.trans (hb2.mono HBA.out.size); have hs2 := hz2.size; obtain ⟨gx0, gx1⟩ := cells2 wr w2 _ _ _ hb2; have ho2 := own_keep HRO.out.2 (((Below.refl _ wr).alloc (Nat.le_refl _) _).trans (hb2.mono (by simp))))
        | (at_builtin; refine wpList_appStrG rfl _ _ rfl w2 w.heap.size _ _ _ (letL ex) (bts_let ex) ho2 hs2 (by rw [HRO.out.1, hlet]; have := HK0.out; simp at this ⊢; omega) rfl rfl ?_; intro v4 w4 hown4 hb4 hk4; have hz4 := hz2.trans hb4; have hs4 := hz4.size; have gy1 := (World.cell?_of_block (a := ⟨wr.heap.size, 1, none⟩) (hk4 wr.heap.size (World.block_lt_of_cell? w2 _ gx1) (fun e => by have := own_ltG HRO.out.2 e; omega))).trans gx1; obtain ⟨a4, k4, c4, rfl, HK4, HO4⟩ := bopen hown4; clear hown4))
      have HST2 : Hid (k4 = (hd ++ letL ex ++ varsT [32] (ys.take 0)).length ∧ w4.ownsRow w.heap.size 5 1 (.slice a4 k4 c4) k4 ((hd ++ letL ex ++ varsT [32] (ys.take 0)).map (Value.int .u8))) := by
        rw [List.take_zero, show varsT [32] [] = [] from rfl, List.append_nil]
        exact ⟨HK4.out, HO4.out⟩
      clear HK4 HO4 gy1
      go_loopw [3, 21] (fun bv i wr => ∃ (j m : Nat) (ab : Option Addr) (cb : Nat), j ≤ ml ∧ i = .int .i64 j ∧ bv = .slice ab m cb ∧ Hid (m = (hd ++ letL ex ++ varsT [32] (ys.take j)).length ∧ wr.ownsRow w.heap.size 5 1 (.slice ab m cb) m ((hd ++ letL ex ++ varsT [32] (ys.take j)).map (Value.int .u8))) ∧ Below w.heap.size w wr) (fun _ i _ => ml - (intOf i).toNat)
      case atStart => exact ⟨0, _, _, _, Nat.zero_le _, rfl, rfl, HST2.out, hz4⟩
      case round =>
        obtain ⟨j, m2, ab2, cb2, hj, rfl, rfl, HRO2, hzr2⟩ := hrel
        have hsr2 := hzr2.size
        clear HST2 HRO gx0 gx1
        by_cases hjl : j < ml
        · obtain ⟨b2, off2, ha2, hb2', hc2'⟩ := HRV.out.resolve_left (by have := HML.out; omega)
          subst ha2
          have hjy : j < ys.length := by rw [HML.out]; exact hjl
          have g2 := (hzr2.cell (p := ⟨b2, off2 + j, none⟩) hb2').trans (hc2' j (by first | exact hjl | exact hjy))
          have HB9 := Lib.hid (HIK.out _ (getD_memI hjy))
          have HSJ := Lib.hid (take_varsT [32] ys j hjy)
          have HKJ := Lib.hid (HKK.out (j + 1))
          rw [HSJ.out] at HKJ
          clear hc2' hjy
          generalize ys.getD j 0 = l at *
          go_wp2_with (first
            | (go_at_call 66; refine (appInt_k w.heap.size l HB9.out.1 HB9.out.2 _ _ _ w5 HO5.out hz5.size (by have := HKJ.out; simp at this ⊢; omega) (HTB.out _ _ hz5 (Nat.le_refl _))).mono ?_; rintro e w6 ⟨v6, rfl, hown6, hb6⟩; have hz6 := hz5.trans hb6; obtain ⟨a6, k6, c6, rfl, HK6, HO6⟩ := bopen hown6; clear hown6)
            | (at_builtin; refine wpList_app1G (Value.int .u8) 22 5 (.int .u8 0) 1 Tryz.underlying22 infoU8 rfl (by decide) rfl _ _ rfl wr w.heap.size _ _ _ 32 rfl HRO2.out.2 hsr2 (by rw [HRO2.out.1]; have h7 := HKJ.out; simp only [List.length_append] at h7 ⊢; omega) rfl rfl ?_; intro v5 w5 hown5 hap5; have hz5 := hzr2.trans hap5.below; obtain ⟨a5, k5, c5, rfl, HK5, HO5⟩ := bopen hown5; clear hown5))
          go_roundw
          case rel =>
            have he : hd ++ letL ex ++ varsT [32] (ys.take (j + 1)) = hd ++ letL ex ++ varsT [32] (ys.take j) ++ [32] ++ itoaL l := by rw [HSJ.out]; simp
            exact ⟨j + 1, k6, a6, c6, by omega, by go_num, rfl, by rw [he]; exact ⟨HK6.out, HO6.out⟩, hz6⟩
          case measure => simp [intOf]; omega
        · have hjm : j = ml := by omega
          subst hjm
          have HKE := Lib.hid (HKK.out j)
          have HTK := Lib.hid (show ys.take j = ys from List.take_of_length_le (by rw [HML.out]; exact Nat.le_refl _))
          rw [HTK.out] at HRO2 HKE
          go_wp2_with (at_builtin; refine wpList_appStr rfl _ _ rfl wr w.heap.size _ _ _ [32, 48, 10] (by intro x hx; simp at hx; omega) HRO2.out.2 hsr2 (by rw [HRO2.out.1]; have := HKE.out; simp at this ⊢; omega) rfl rfl ?_; intro v5 w5 hown5 hb5; have hz5 := hzr2.trans hb5; obtain ⟨a5, k5, c5, rfl, HK5, HO5⟩ := bopen hown5; clear hown5)
          go_roundw
          case rel =>
            have he : (bs.take (k + 1)).flatMap (blkT [32]) = hd ++ letL ex ++ varsT [32] ys ++ [32, 48, 10] := by rw [HSS.out, HBE.out]; simp
            exact ⟨k + 1, k5, a5, c5, by omega, by go_num, rfl, by rw [he]; exact ⟨HK5.out, HO5.out⟩, hz5⟩
          case measure => simp [intOf]; omega
    · have hkn : k = n := by omega
      subst hkn
      have HFIN := Lib.hid (HTX.out (.slice ab m cb) wr m HRO.out.1 HRO.out.2)
      clear HTX HRO
      go_wp2_with fail
      go_ret
      exact ⟨⟨_, rfl, HFIN.out⟩, hzr⟩

set_option maxHeartbeats 4000000 in
theorem bytesF_any (vn : Nat) (q : Option Addr) (d : Nat) (bs : List Blk) (a : Option Addr) (c : Nat) (xss : List (List Int)) (w : World) (hvn : vn < 1000000) (hq : BRowsAt w q d bs) (hr : RowsAt w a c xss) (hib : ∀ b ∈ bs, ∀ l ∈ b.2, -1000000000 < l ∧ l < 1000000000) (hint : ∀ xs ∈ xss, ∀ l ∈ xs, -1000000000 < l ∧ l < 1000000000) (hT : (fTextL vn bs xss).length ≤ 10000) (hn1 : xss.length ≤ 10000) (hn2 : ∀ xs ∈ xss, xs.length ≤ 10000) (ht : Tabs w) :
    Calls Tryz.prog 14 #[.agg #[.slice q bs.length d, .int .i64 (vn : Int), .slice a xss.length c]] w fun e w' => (∃ v, e = .returned v ∧ w'.ownsRow w.heap.size 5 1 v (fTextL vn bs xss).length ((fTextL vn bs xss).map (Value.int .u8))) ∧ Below w.heap.size w w' := by
  have hl1 : (textL vn xss).length + (bs.flatMap (blkT [32])).length = (fTextL vn bs xss).length := by
    unfold textL fTextL
    simp only [List.length_append]
    omega
  have HD := Lib.hid (fun W (hW : Below w.heap.size w W) => bytesD_any vn a c xss W hvn (hr.keep hW) hint (by omega) hn1 hn2 (ht.keep hW))
  have HL := Lib.hid (fun W (hW : Below w.heap.size w W) => blockLines_any q d bs W (hq.keep hW) hib (by omega) (ht.keep hW))
  obtain ⟨s0, hs0⟩ := head_line (vn : Int) (xss.length : Int) (xss.flatMap clsT)
  have HLN : Hid (∀ u W, RowG (Value.int .u8) 0 W u (textL vn xss) → Calls Tryz.prog 44 #[u, .int .i64 0] W fun e w' => e = .returned (.tuple #[.string (strOfNums s0), .int .i64 ((headT vn xss.length).length : Int), .bool true]) ∧ W = w') := fun u W hu => by
    have := line_any u (textL vn xss) 0 W hu (textL_bts _ _) (by omega)
    rw [show lineL (textL vn xss) 0 = some (s0, (headT vn xss.length).length) from hs0] at this
    exact this
  have hhl : (headT vn xss.length).length ≤ (textL vn xss).length := by unfold textL; simp
  have HIN : Hid (∀ W sv uv, W.ownsRow w.heap.size 5 1 sv (textL vn xss).length ((textL vn xss).map (Value.int .u8)) → W.ownsRow w.heap.size 5 1 uv (bs.flatMap (blkT [32])).length ((bs.flatMap (blkT [32])).map (Value.int .u8)) → (∀ g, uv.ownBlock = some g → sv.ownBlock ≠ some g) → w.heap.size ≤ W.heap.size → Calls Tryz.prog 45 #[sv, .int .i64 ((headT vn xss.length).length : Int), uv] W fun e w' => (∃ v', e = .returned v' ∧ w'.ownsRow w.heap.size 5 1 v' (fTextL vn bs xss).length ((fTextL vn bs xss).map (Value.int .u8))) ∧ Below w.heap.size W w') := fun W sv uv h1 h2 h3 h4 => by
    have := insert_any w.heap.size (headT vn xss.length).length sv uv _ _ W h1 h2 h3 h4 hhl (by omega)
    unfold InsPost at this
    rw [fText_ins, hl1] at this
    exact this
  have HBX : Hid (∀ o, Below w.heap.size w (w.alloc o)) := fun o => (Below.refl _ w).alloc (Nat.le_refl _) _
  clear hq hr hib hint ht hs0
  generalize (headT vn xss.length).length = hl at *
  generalize fTextL vn bs xss = T at *
  generalize textL vn xss = T1 at *
  generalize bs.flatMap (blkT [32]) = T2 at *
  generalize xss.length = n at *
  generalize bs.length = nb at *
  go_enter Tryz.func14, Tryz.ntmps14
  go_wp2_with (first
    | (go_at_call 43; refine (HD.out _ (HBX.out _)).mono ?_; rintro e w1 ⟨⟨v1, rfl, ho1⟩, hb1⟩; have hz1 := (HBX.out _).trans (hb1.mono (by simp)); have HO1 := Lib.hid (own_base ho1 (show w.heap.size ≤ _ by simp)); obtain ⟨a1, k1, c1, rfl, HK1, _⟩ := bopen ho1; obtain ⟨gx0, gx1, gx2⟩ := cells3 w w1 _ _ _ _ hb1)
    | (go_at_call 44; refine (HLN.out _ _ (own_rowG (d := 0) ho1)).mono ?_; rintro e w' ⟨rfl, rfl⟩)
    | (go_at_call 46; refine (HL.out _ hz1).mono ?_; rintro e w2 ⟨⟨v2, rfl, ho2⟩, hb2⟩; have hz2 := hz1.trans (hb2.mono hz1.size); have HO2 := Lib.hid (own_base ho2 hz1.size); have hsep : ∀ g, v2.ownBlock = some g → (Value.slice a1 k1 c1).ownBlock ≠ some g := fun g e1 e2 => (by have h1 := (ho2.lt g e1).1; have h2 := own_ltG ho1 e2; omega); obtain ⟨a2, k2, c2, rfl, HK2, _⟩ := bopen ho2)
    | (go_at_call 45; refine (HIN.out _ _ _ (own_keep HO1.out hb2) HO2.out hsep hz2.size).mono ?_; rintro e w3 ⟨⟨v3, rfl, ho3⟩, hb3⟩))
  (try go_ret)
  exact ⟨⟨_, rfl, ho3⟩, hz2.trans hb3⟩
end Go.Proofs.YtfoohdknjacenaaGreatDoor
