/- slices.Insert at []byte: what comes back owns what stood ahead of i, the values, what stood from i on. Conditions: both slices are the call's own, in blocks of their own, and short; i is at most the first one's length. -/
import Derived.Test.YtfoohdknjacenaaDoorGen
import Derived.Test.YtfoohdknjacenaaDoorBits
import Derived.Test.YtfoohdknjacenaaDoorBytesD
import Derived.Shelf.Spec.SlicesInsert
import Derived.Shelf.Spec.SlicesInsertGrow
namespace Go.Proofs.YtfoohdknjacenaaDoor
open Go.RowKit Go.Lib

theorem setCells_blk (b : Nat) : ∀ (vs : List Value) (o : Nat) (w : World) (cur : Array Value) (t : TypeId) (fz : Nat × Nat), w.heap[b]? = some (.cells cur t fz) → ∃ cur', (w.setCells b o vs).heap[b]? = some (.cells cur' t fz) ∧ cur'.size = cur.size
  | [], _, _, cur, _, _, h => ⟨cur, h, rfl⟩
  | v :: r, o, w, cur, t, fz, h => by
    have h2 : (w.setCell ⟨b, o, none⟩ v).heap[b]? = some (.cells (cur.setIfInBounds o v) t fz) := by
      obtain ⟨hlt, hb⟩ := Array.getElem?_eq_some_iff.1 h
      simp [World.setCell, Array.getElem?_modify, h]
    obtain ⟨cur', h3, h4⟩ := setCells_blk b r (o + 1) _ _ t fz h2
    exact ⟨cur', by rw [World.setCells]; exact h3, by rw [h4]; simp⟩
theorem below_sets {B b : Nat} (hb : B ≤ b) : ∀ (vs : List Value) (o : Nat) {a w : World}, Below B a w → Below B a (w.setCells b o vs)
  | [], _, _, _, h => h
  | v :: r, o, a, w, h => by
    rw [World.setCells]
    exact below_sets hb r (o + 1) (h.setCell hb v)
theorem own_of_cells {w : World} {B b n c : Nat} {t : TypeId} {cur : Array Value} {L : List Value} (hg : w.heap[b]? = some (.cells cur t (0, 0))) (hs : cur.size = c) (hB : B ≤ b) (hl : L.length = n) (hn : n ≤ c) (hc : c ≤ maxLen) (h : ∀ j v, L[j]? = some v → w.cell? ⟨b, j, none⟩ = some v) :
    w.ownsRow B t 1 (.slice (some ⟨b, 0, none⟩) n c) n L := by
  refine ⟨by omega, .inr ⟨b, c, cur, rfl, hB, hg, hn, hc, by omega, ?_⟩⟩
  apply List.ext_getElem?
  intro j
  rw [List.getElem?_take]
  by_cases hj : j < n
  · rw [if_pos (by omega)]
    have hjl : j < L.length := by omega
    have h2 := h j L[j] (List.getElem?_eq_getElem hjl)
    rw [cell_of_row w b j cur t (0, 0) hg] at h2
    rw [List.getElem?_eq_getElem hjl, ← h2]
    simp
  · rw [if_neg (by omega), List.getElem?_eq_none (by omega)]
theorem ins_get (xs ys : List Value) (i : Nat) (hi : i ≤ xs.length) (j : Nat) (v : Value) (h : (xs.take i ++ ys ++ xs.drop i)[j]? = some v) :
    (j < i ∧ xs[j]? = some v) ∨ (i ≤ j ∧ j < i + ys.length ∧ ys[j - i]? = some v) ∨ (i + ys.length ≤ j ∧ (xs.drop i)[j - (i + ys.length)]? = some v) := by
  have ht : (xs.take i).length = i := by rw [List.length_take]; omega
  by_cases h1 : j < i
  · left
    rw [List.append_assoc, List.getElem?_append_left (by omega), List.getElem?_take, if_pos h1] at h
    exact ⟨h1, h⟩
  · by_cases h2 : j < i + ys.length
    · right; left
      rw [List.getElem?_append_left (by rw [List.length_append]; omega), List.getElem?_append_right (by omega), ht] at h
      exact ⟨by omega, h2, h⟩
    · right; right
      rw [List.getElem?_append_right (by rw [List.length_append]; omega), List.length_append, ht] at h
      exact ⟨by omega, h⟩
theorem own_block {w : World} {B : Nat} {e : TypeId} {v : Value} {n : Nat} {xs : List Value} (h : w.ownsRow B e 1 v n xs) (hn : 0 < n) : ∃ g c cur, v = .slice (some ⟨g, 0, none⟩) n c ∧ B ≤ g ∧ g < w.heap.size ∧ w.heap[g]? = some (.cells cur e (0, 0)) ∧ cur.size = c ∧ n ≤ c ∧ c ≤ maxLen ∧ xs.length = n ∧ ∀ j u, xs[j]? = some u → w.cell? ⟨g, j, none⟩ = some u := by
  have hl := h.lt
  have hx := h.1
  have h0 := h
  rcases h.2 with ⟨_, e1⟩ | ⟨g, cap, cur, hv, hb, hg, h1, h2, h3, _⟩
  · omega
  · subst hv
    refine ⟨g, cap, cur, rfl, hb, (hl g rfl).2, hg, by omega, h1, h2, by omega, fun j u hj => ?_⟩
    have := h0.cells (g := g) rfl j u hj
    rwa [show (⟨g, 0, none⟩ : Addr).add j = ⟨g, j, none⟩ by unfold Addr.add; split <;> simp_all] at this

def InsPost (B : Nat) (w : World) (i : Nat) (xs ys : List Int) (e : Ending) (w' : World) : Prop :=
  (∃ v', e = .returned v' ∧ w'.ownsRow B 5 1 v' (xs.length + ys.length) ((xs.take i ++ ys ++ xs.drop i).map (Value.int .u8))) ∧ Below B w w'

set_option maxHeartbeats 4000000 in
set_option maxRecDepth 100000 in
/-- No values: the slice itself. -/
theorem ins_none (B i : Nat) (sv uv : Value) (xs : List Int) (w : World) (ho : w.ownsRow B 5 1 sv xs.length (xs.map (Value.int .u8))) (hu : w.ownsRow B 5 1 uv 0 []) (hi : i ≤ xs.length) :
    Calls Tryd.prog 25 #[sv, .int .i64 i, uv] w (InsPost B w i xs []) := by
  obtain ⟨a, c, rfl, h1, h2⟩ := own_shape ho
  obtain ⟨a2, c2, rfl, _, _⟩ := own_shape hu
  unfold maxLen at h2
  have HF : Hid (InsPost B w i xs [] (.returned (.slice a xs.length c)) w) := ⟨⟨_, rfl, by rw [List.append_nil, List.take_append_drop]; exact ho⟩, Below.refl _ _⟩
  generalize InsPost B w i xs [] = Q at *
  have hnil : a = none → c = 0 := by
    rintro rfl
    rcases ho.2 with ⟨e0, _⟩ | ⟨g, _, _, e0, _⟩
    · injection e0
    · injection e0 with e0; cases e0
  clear ho hu
  generalize xs.length = n at *
  cases a with
  | none =>
    obtain rfl := hnil rfl
    obtain rfl : n = 0 := by omega
    obtain rfl : i = 0 := by omega
    go_enter Tryd.func25, Tryd.ntmps25
    go_wp2_with fail

    (try go_ret)
    exact HF.out
  | some ad =>
    by_cases hc : c = i
    · subst hc
      go_enter Tryd.func25, Tryd.ntmps25
      go_wp2_with fail
      (try go_ret)
      exact HF.out
    · go_enter Tryd.func25, Tryd.ntmps25
      go_wp2_with fail
      (try go_ret)
      exact HF.out

set_option maxHeartbeats 4000000 in
set_option maxRecDepth 100000 in
/-- At the end: they are appended. -/
theorem ins_end (B : Nat) (sv uv : Value) (xs ys : List Int) (w : World) (ho : w.ownsRow B 5 1 sv xs.length (xs.map (Value.int .u8))) (hu : w.ownsRow B 5 1 uv ys.length (ys.map (Value.int .u8))) (hy : 0 < ys.length) (hB : B ≤ w.heap.size) (hl : xs.length + ys.length ≤ 100000) :
    Calls Tryd.prog 25 #[sv, .int .i64 xs.length, uv] w (InsPost B w xs.length xs ys) := by
  obtain ⟨a, c, rfl, h1, h2⟩ := own_shape ho
  obtain ⟨g, c2, cur, rfl, hg1, hg2, hg3, hg4, hg5, hg6, hg7, hg8⟩ := own_block hu hy
  unfold maxLen at h2 hg6
  have HF : Hid (∀ v' w', w'.ownsRow B 5 1 v' (xs.length + ys.length) ((xs ++ ys).map (Value.int .u8)) → Below B w w' → InsPost B w xs.length xs ys (.returned v') w') := fun v' w' h3 h4 => ⟨⟨_, rfl, by rw [List.take_length, List.drop_length, List.append_nil]; exact h3⟩, h4⟩
  generalize InsPost B w xs.length xs ys = Q at *
  have hnil : a = none → c = 0 := by
    rintro rfl
    rcases ho.2 with ⟨e0, _⟩ | ⟨g, _, _, e0, _⟩
    · injection e0
    · injection e0 with e0; cases e0
  have HO := Lib.hid ho; clear ho
  have HC : Hid (∀ j, j < ys.length → w.cell? ((⟨g, 0, none⟩ : Addr).add j) = some (.int .u8 (ys.getD j 0))) := fun j hj => by
    rw [show (⟨g, 0, none⟩ : Addr).add j = ⟨g, j, none⟩ by unfold Addr.add; split <;> simp_all]
    exact hg8 j _ (by simp [List.getD, hj])
  clear hu hg3 hg8 hg7
  generalize hn : xs.length = n at *
  have HN := Lib.hid hn; clear hn
  generalize hm : ys.length = m at *
  have HM := Lib.hid hm; clear hm
  have hmz : ¬ ((m : Int) = 0) := by omega
  have hmb : ((m : Int) == 0) = false := by simp; omega
  cases a with
  | none =>
    obtain rfl := hnil rfl
    obtain rfl : n = 0 := by omega
    go_enter Tryd.func25, Tryd.ntmps25
    go_wp2_with (at_builtin; refine wpList_appM (Value.int .u8) 0 34 5 (.int .u8 0) 1 Tryd.underlying34 infoU8 rfl (by decide) (fun _ => rfl) rfl _ _ rfl w B _ _ xs ⟨g, 0, none⟩ m c2 ys HO.out hB (by omega) HM.out HC.out rfl rfl ?_; intro v' w' h3 h4)
    (try go_ret)
    exact HF.out _ _ h3 h4
  | some ad =>
    by_cases hc : c = n
    · subst hc
      go_enter Tryd.func25, Tryd.ntmps25
      go_wp2_with (at_builtin; refine wpList_appM (Value.int .u8) 0 34 5 (.int .u8 0) 1 Tryd.underlying34 infoU8 rfl (by decide) (fun _ => rfl) rfl _ _ rfl w B _ _ xs ⟨g, 0, none⟩ m c2 ys HO.out hB (by omega) HM.out HC.out rfl rfl ?_; intro v' w' h3 h4)
      (try go_ret)
      exact HF.out _ _ h3 h4
    · go_enter Tryd.func25, Tryd.ntmps25
      go_wp2_with (at_builtin; refine wpList_appM (Value.int .u8) 0 34 5 (.int .u8 0) 1 Tryd.underlying34 infoU8 rfl (by decide) (fun _ => rfl) rfl _ _ rfl w B _ _ xs ⟨g, 0, none⟩ m c2 ys HO.out hB (by omega) HM.out HC.out rfl rfl ?_; intro v' w' h3 h4)
      (try go_ret)
      exact HF.out _ _ h3 h4
end Go.Proofs.YtfoohdknjacenaaDoor
