/- Contracts of heap's small functions: modulo, cut, better, of, is, Len, Has, Score; of the document's is. Conditions: 64-bit ints; the heap lies in memory as 'HpAt', 'RpAt' say. -/
import Derived.Test.YteiidcogjmekhaaHpM
import Derived.Test.YteiidcogjmekhaaChecked
import Derived.IntWalk
import Derived.Deep.QuietTactic
import Derived.BigQuiet
import Derived.RegionTactic
import Derived.Carry
namespace Go.Proofs.Yteiidcogjmekhaa
open Go.RowKit

theorem mod_rem (n m : Int) : (n.tmod m + m) % m = n % m := by
  rw [Int.add_emod_right]
  conv => rhs; rw [← Int.tmod_add_mul_tdiv n m, Int.add_mul_emod_self_left]

set_option maxHeartbeats 400000 in
theorem hmod_any (n m : Int) (w : World) (hm : 0 < m) (hm2 : m ≤ 100000) (_h1 : -9223372036854775808 ≤ n) (_h2 : n ≤ 9223372036854775807) :
    Calls Try.prog 28 #[.int .i64 n, .int .i64 m] w fun e w' => e = .returned (.int .i64 (n % m)) ∧ w = w' := by
  have t1 := Int.tmod_lt_of_pos n hm
  have t2 : -m < n.tmod m := Int.lt_tmod_of_pos n hm
  have HM := Lib.hid (mod_rem n m)
  go_enter Try.func28, Try.ntmps28
  go_wp2
  go_ret
  exact ⟨ret_int HM.out, rfl⟩

set_option maxHeartbeats 400000 in
theorem hcut_any (n l : Int) (w : World) (hl : l ≤ 1099511627776) (h1 : -9223372036854775808 ≤ n) (h2 : n ≤ 9223372036854775807) (h3 : -9223372036854775808 ≤ l) :
    Calls Try.prog 29 #[.int .i64 n, .int .i64 l] w fun e w' => e = .returned (.int .i64 (min (max n l) 1099511627776)) ∧ w = w' := by
  rcases (show (n < l ∧ min (max n l) 1099511627776 = l) ∨ (l ≤ n ∧ n < 1099511627776 ∧ min (max n l) 1099511627776 = n) ∨ (l ≤ n ∧ 1099511627776 ≤ n ∧ min (max n l) 1099511627776 = 1099511627776) by omega) with ⟨k1, e⟩ | ⟨k1, k2, e⟩ | ⟨k1, k2, e⟩
  · rw [e]
    have k3 : ¬ l < n := by omega
    clear e
    by_cases k4 : l = 1099511627776
    · subst k4
      go_enter Try.func29, Try.ntmps29
      go_wp2
      go_ret
      exact ⟨rfl, rfl⟩
    · have k5 : l < 1099511627776 := by omega
      have k6 : ¬ 1099511627776 < l := by omega
      go_enter Try.func29, Try.ntmps29
      go_wp2
      go_ret
      exact ⟨rfl, rfl⟩
  · rw [e]
    clear e
    have k3 : ¬ n < l := by omega
    have k6 : ¬ 1099511627776 < n := by omega
    by_cases k4 : l = n
    · subst k4
      go_enter Try.func29, Try.ntmps29
      go_wp2
      go_ret
      exact ⟨rfl, rfl⟩
    · have k5 : l < n := by omega
      go_enter Try.func29, Try.ntmps29
      go_wp2
      go_ret
      exact ⟨rfl, rfl⟩
  · rw [e]
    clear e
    have k3 : ¬ n < l := by omega
    have k6 : ¬ n < 1099511627776 := by omega
    by_cases k4 : l = n
    · have k7 : n = 1099511627776 := by omega
      subst k7
      subst k4
      go_enter Try.func29, Try.ntmps29
      go_wp2
      go_ret
      exact ⟨rfl, rfl⟩
    · have k5 : l < n := by omega
      by_cases k7 : n = 1099511627776
      · subst k7
        go_enter Try.func29, Try.ntmps29
        go_wp2
        go_ret
        exact ⟨rfl, rfl⟩
      · have k8 : 1099511627776 < n := by omega
        go_enter Try.func29, Try.ntmps29
        go_wp2
        go_ret
        exact ⟨rfl, rfl⟩

set_option maxHeartbeats 400000 in
theorem hof_any (x y s : Int) (w : World) :
    Calls Try.prog 31 #[.agg #[.int .i64 x, .int .i64 y], .int .i64 s] w fun e w' => e = .returned (.int .i64 (ofI (x, y) s)) ∧ Below w.heap.size w w' := by
  have hB : Below w.heap.size w (w.alloc (.cells #[.int .i64 x, .int .i64 y] 49)) := (Below.refl _ _).alloc (Nat.le_refl _) _
  have HB := Lib.hid hB
  clear hB
  unfold ofI
  by_cases h : x = s
  · have hb : (x == s) = true := by simp [h]
    have hc : (x != s) = false := by simp [h]
    rw [if_pos h]
    clear h
    go_enter Try.func31, Try.ntmps31
    go_wp2
    go_ret
    exact ⟨rfl, HB.out⟩
  · have hb : (x == s) = false := by simp [h]
    have hc : (x != s) = true := by simp [h]
    rw [if_neg h]
    go_enter Try.func31, Try.ntmps31
    go_wp2
    go_ret
    exact ⟨rfl, HB.out⟩

theorem bet_end (w : World) (x1 x2 y1 y2 r1 r2 : Int) (T : TypeId) :
    let W := ((w.alloc (.cells #[.int .i64 x1, .int .i64 x2] T)).alloc (.cells #[.int .i64 y1, .int .i64 y2] T)).alloc (.cells #[.int .i64 r1, .int .i64 r2] T)
    W.cell? ⟨w.heap.size + 1 + 1, 0, none⟩ = some (.int .i64 r1) ∧ W.cell? ⟨w.heap.size + 1 + 1, 1, none⟩ = some (.int .i64 r2) ∧ Below w.heap.size w W := by
  intro W
  have hz : ((w.alloc (.cells #[.int .i64 x1, .int .i64 x2] T)).alloc (.cells #[.int .i64 y1, .int .i64 y2] T)).heap.size = w.heap.size + 1 + 1 := by simp
  have hn := heap_alloc_new ((w.alloc (.cells #[.int .i64 x1, .int .i64 x2] T)).alloc (.cells #[.int .i64 y1, .int .i64 y2] T)) (.cells #[.int .i64 r1, .int .i64 r2] T)
  rw [hz] at hn
  refine ⟨?_, ?_, (((Below.refl _ _).alloc (Nat.le_refl _) _).alloc (by simp) _).alloc (by simp; omega) _⟩
  · rw [cell_of_row _ _ 0 _ T (0, 0) hn]; rfl
  · rw [cell_of_row _ _ 1 _ T (0, 0) hn]; rfl

set_option maxHeartbeats 1000000 in
theorem hbetter_any (x1 x2 y1 y2 : Int) (w : World) (hx : 0 ≤ x2 ∧ x2 ≤ 100000) (hy : 0 ≤ y2 ∧ y2 ≤ 100000) :
    Calls Try.prog 30 #[.agg #[.int .i64 x1, .int .i64 x2], .agg #[.int .i64 y1, .int .i64 y2]] w fun e w' => (∃ a b, e = .returned (.agg #[.int .i64 a, .int .i64 b]) ∧ betterI (x1, x2) (y1, y2) = (a, b)) ∧ Below w.heap.size w w' := by
  obtain ⟨hx1, hx2⟩ := hx
  obtain ⟨hy1, hy2⟩ := hy
  have HW := Lib.hid (fun r1 r2 => bet_end w x1 x2 y1 y2 r1 r2 49)
  rcases Int.lt_trichotomy y1 x1 with h | h | h
  · have HE := Lib.hid (show betterI (x1, x2) (y1, y2) = (x1, x2) by unfold betterI; rw [if_pos h])
    go_enter Try.func30, Try.ntmps30
    go_wp2
    obtain ⟨c0, c1, hb⟩ := HW.out x1 x2
    exact bodyPost_ret (v := .agg #[.int .i64 x1, .int .i64 x2]) (by simp [results, Try.results30, go_sem, c0, c1]) rfl ⟨⟨_, _, rfl, HE.out⟩, hb⟩
  · subst h
    have HE := Lib.hid (show betterI (y1, x2) (y1, y2) = (y1, x2 + y2) by unfold betterI; rw [if_neg (Int.lt_irrefl _), if_neg (Int.lt_irrefl _)])
    go_enter Try.func30, Try.ntmps30
    go_wp2
    obtain ⟨c0, c1, hb⟩ := HW.out y1 (x2 + y2)
    exact bodyPost_ret (v := .agg #[.int .i64 y1, .int .i64 (x2 + y2)]) (by simp [results, Try.results30, go_sem, c0, c1]) rfl ⟨⟨_, _, rfl, HE.out⟩, hb⟩
  · have h2 : ¬ y1 < x1 := by omega
    have HE := Lib.hid (show betterI (x1, x2) (y1, y2) = (y1, y2) by unfold betterI; rw [if_neg h2, if_pos h])
    go_enter Try.func30, Try.ntmps30
    go_wp2
    obtain ⟨c0, c1, hb⟩ := HW.out y1 y2
    exact bodyPost_ret (v := .agg #[.int .i64 y1, .int .i64 y2]) (by simp [results, Try.results30, go_sem, c0, c1]) rfl ⟨⟨_, _, rfl, HE.out⟩, hb⟩

/-! ### Of a heap in memory -/
def isN (n : Nat) (v : Int) : Bool := decide (0 < v) && decide (v < (n : Int))

set_option maxHeartbeats 400000 in
theorem his_any {p a n c : Nat} (v : Int) (w : World) (c0 : w.cell? ⟨p, 0, none⟩ = some (.slice (some ⟨a, 0, none⟩) n c)) :
    Calls Try.prog 24 #[.pointer (some ⟨p, 0, none⟩), .int .i64 v] w fun e w' => e = .returned (.bool (isN n v)) ∧ w = w' := by
  unfold isN
  by_cases h : 0 < v
  · have hd : decide (0 < v) = true := decide_eq_true h
    go_enter Try.func24, Try.ntmps24
    go_wp2
    go_ret
    exact ⟨ret_bool (by simp [h]), rfl⟩
  · have hd : decide (0 < v) = false := decide_eq_false h
    go_enter Try.func24, Try.ntmps24
    go_wp2
    go_ret
    exact ⟨ret_bool (by simp), rfl⟩

set_option maxHeartbeats 400000 in
theorem ris_any {p a n c : Nat} (v : Int) (w : World) (c0 : w.cell? ⟨p, 0, none⟩ = some (.slice (some ⟨a, 0, none⟩) n c)) :
    Calls Try.prog 26 #[.pointer (some ⟨p, 0, none⟩), .int .i64 v] w fun e w' => e = .returned (.bool (isN n v)) ∧ w = w' := by
  unfold isN
  by_cases h : 0 < v
  · have hd : decide (0 < v) = true := decide_eq_true h
    go_enter Try.func26, Try.ntmps26
    go_wp2
    go_ret
    exact ⟨ret_bool (by simp [h]), rfl⟩
  · have hd : decide (0 < v) = false := decide_eq_false h
    go_enter Try.func26, Try.ntmps26
    go_wp2
    go_ret
    exact ⟨ret_bool (by simp), rfl⟩

set_option maxHeartbeats 400000 in
theorem hlen_any {p : Nat} (m : Int) (w : World) (c2 : w.cell? ⟨p, 2, none⟩ = some (.int .i64 m)) :
    Calls Try.prog 20 #[.pointer (some ⟨p, 0, none⟩)] w fun e w' => e = .returned (.int .i64 m) ∧ w = w' := by
  go_enter Try.func20, Try.ntmps20
  go_wp2
  go_ret
  exact ⟨rfl, rfl⟩

theorem isN_iff {n : Nat} {v : Int} : isN n v = true ↔ 0 < v ∧ v < (n : Int) := by unfold isN; simp

set_option maxHeartbeats 400000 in
theorem hhas_any {p a b t ca cb ct : Nat} {ss : List Int} {ins : List Bool} {m : Int} {T : List Nd} (v : Int) (w : World) (h : HpAt w p a b t ca cb ct ss ins m T) (hl : ins.length = ss.length) :
    Calls Try.prog 22 #[.pointer (some ⟨p, 0, none⟩), .int .i64 v] w fun e w' => e = .returned (.bool (hasH ⟨ss, ins⟩ v)) ∧ w = w' := by
  have HI := Lib.hid (his_any (n := ss.length) v w h.c0)
  have c1 := h.c1
  have HH := Lib.hid (show hasH ⟨ss, ins⟩ v = (isN ss.length v && ins.getD v.toNat false) from rfl)
  rw [HH.out]
  cases hi : isN ss.length v with
  | false =>
    rw [hi] at HI
    clear h
    go_enter Try.func22, Try.ntmps22
    go_wp2_with (go_at_call 24; refine HI.out.mono ?_; rintro e w' ⟨rfl, rfl⟩)
    go_ret
    exact ⟨rfl, rfl⟩
  | true =>
    rw [hi] at HI
    rw [isN_iff] at hi
    obtain ⟨k, rfl⟩ := Int.eq_ofNat_of_zero_le (show 0 ≤ v by omega)
    obtain ⟨h1, h2⟩ := hi
    rw [Int.toNat_natCast]
    have x0 := h.isin (i := k) (by omega)
    clear h HH
    rw [hl] at c1
    generalize ins.getD k false = x at *
    generalize ss.length = n at *
    go_enter Try.func22, Try.ntmps22
    go_wp2_with (go_at_call 24; refine HI.out.mono ?_; rintro e w' ⟨rfl, rfl⟩)
    go_ret
    exact ⟨rfl, rfl⟩

set_option maxHeartbeats 400000 in
theorem hscore_any {p a b t ca cb ct : Nat} {ss : List Int} {ins : List Bool} {m : Int} {T : List Nd} (v : Int) (w : World) (h : HpAt w p a b t ca cb ct ss ins m T) :
    Calls Try.prog 23 #[.pointer (some ⟨p, 0, none⟩), .int .i64 v] w fun e w' => e = .returned (.int .i64 (scoreH ⟨ss, ins⟩ v)) ∧ w = w' := by
  have HI := Lib.hid (his_any (n := ss.length) v w h.c0)
  have c0 := h.c0
  have HH := Lib.hid (show scoreH ⟨ss, ins⟩ v = (if isN ss.length v = true then ss.getD v.toNat 0 else 0) from rfl)
  rw [HH.out]
  cases hi : isN ss.length v with
  | false =>
    rw [hi] at HI
    clear h
    go_enter Try.func23, Try.ntmps23
    go_wp2_with (go_at_call 24; refine HI.out.mono ?_; rintro e w' ⟨rfl, rfl⟩)
    go_ret
    exact ⟨rfl, rfl⟩
  | true =>
    rw [hi] at HI
    rw [isN_iff] at hi
    obtain ⟨k, rfl⟩ := Int.eq_ofNat_of_zero_le (show 0 ≤ v by omega)
    obtain ⟨h1, h2⟩ := hi
    rw [Int.toNat_natCast, if_pos rfl]
    have x0 := h.score (i := k) (by omega)
    clear h HH
    generalize ss.getD k 0 = x at *
    generalize ss.length = n at *
    go_enter Try.func23, Try.ntmps23
    go_wp2_with (go_at_call 24; refine HI.out.mono ?_; rintro e w' ⟨rfl, rfl⟩)
    go_ret
    exact ⟨rfl, rfl⟩

end Go.Proofs.Yteiidcogjmekhaa
