/- The walk of skolemlaw3.WordNumbers: it answers true. Conditions: the numbers are 64-bit ints and bytes. -/
import Derived.Test.YtijdangaffnckaaWRow
import Derived.Test.YtijdangaffnckaaNum
import Derived.Test.YtijdangaffnckaaSmall
import Derived.Test.YtijdangaffnckaaOpenG
import Derived.Laws.Concat
import Derived.Laws.IdiomStrings
import Derived.Laws.BytesArg
namespace Go.Proofs.Ytijdangaffnckaa
open Go.RowKit

theorem str_append (xs ys : List Int) : strOfNums xs ++ strOfNums ys = strOfNums (xs ++ ys) := by
  apply ByteArray.ext
  simp [strOfNums]
theorem run_add_str {w : World} (xs ys : List Int) (h1 : xs.length ≤ 1000000) (h2 : ys.length ≤ 1000000) : (Op.stringOp .add (strOfNums xs) (strOfNums ys)).run Try.prog w = .ok (.string (strOfNums (xs ++ ys))) w := by
  rw [run_string_add_sum w _ _ (by rw [strOfNums_size, strOfNums_size]; omega), str_append]
theorem digs_from (ys : List Int) : ∀ a : Int, ys.foldl (fun n x => 10 * n + (x - 48)) a = a * 10 ^ ys.length + digs ys := by
  induction ys with
  | nil => intro a; simp [digs]
  | cons y ys ih =>
    intro a
    unfold digs
    rw [List.foldl_cons, List.foldl_cons, ih, ih, List.length_cons, Int.pow_succ]
    generalize (10 : Int) ^ ys.length = p
    generalize digs ys = q
    rw [Int.add_mul, Int.add_mul]
    have : 10 * a * p = a * (p * 10) := by rw [Int.mul_comm 10 a, Int.mul_assoc, Int.mul_comm 10 p]
    rw [this]
    omega
theorem digs_cons (x : Int) (ys : List Int) : digs (x :: ys) = (x - 48) * 10 ^ ys.length + digs ys := by
  rw [← digs_from]
  unfold digs
  rw [List.foldl_cons]
  simp
theorem digs_pos : ∀ ys : List Int, (∀ y ∈ ys, 48 ≤ y ∧ y ≤ 57) → 0 ≤ digs ys
  | [], _ => by simp [digs]
  | y :: ys, h => by
    rw [digs_cons]
    have h1 := digs_pos ys (fun z hz => h z (by simp [hz]))
    have h2 := h y (by simp)
    have h3 : (0 : Int) ≤ (y - 48) * 10 ^ ys.length := Int.mul_nonneg (by omega) (Int.le_of_lt (Int.pow_pos (by omega)))
    omega
/-- What the loop knows: so much is left, so much is printed. -/
structure Printed (N : Int) (k : Nat) (ys : List Int) : Prop where
  digit : ∀ y ∈ ys, 48 ≤ y ∧ y ≤ 57
  sum : (k : Int) * 10 ^ ys.length + digs ys = N
  more : ys = [] ∨ 1 ≤ k
theorem Printed.short {N : Int} {k : Nat} {ys : List Int} (h : Printed N k ys) (hN : N < 1000000000) : ys.length ≤ 8 := by
  rcases h.more with e | hk
  · rw [e]; simp
  · have h1 := digs_pos ys h.digit
    have h2 := h.sum
    have h3 : (10 : Int) ^ ys.length ≤ (k : Int) * 10 ^ ys.length := by
      have hp : (0 : Int) < 10 ^ ys.length := Int.pow_pos (by omega)
      have := Int.mul_le_mul_of_nonneg_right (show (1 : Int) ≤ k by omega) (Int.le_of_lt hp)
      simpa using this
    rcases Nat.lt_or_ge ys.length 9 with h' | h'
    · omega
    · have h4 : (10 : Int) ^ 9 ≤ 10 ^ ys.length := by
        have : ys.length = 9 + (ys.length - 9) := by omega
        rw [this, Int.pow_add]
        have h5 : (1 : Int) ≤ 10 ^ (ys.length - 9) := Int.pow_pos (by omega)
        have := Int.mul_le_mul_of_nonneg_left h5 (show (0 : Int) ≤ 10 ^ 9 by decide)
        simpa using this
      have h6 : (10 : Int) ^ 9 = 1000000000 := by decide
      omega
theorem Printed.next {N : Int} {k : Nat} {ys : List Int} (h : Printed N k ys) (hk : 10 ≤ k) : Printed N (k / 10) ((48 + (k : Int) % 10) :: ys) where
  digit := fun y hy => by
    rcases List.mem_cons.1 hy with rfl | hy
    · omega
    · exact h.digit y hy
  sum := by
    rw [digs_cons, List.length_cons, Int.pow_succ, ← h.sum]
    generalize (10 : Int) ^ ys.length = p
    have e : (k : Int) = 10 * ((k / 10 : Nat) : Int) + (k : Int) % 10 := by omega
    generalize ((k / 10 : Nat) : Int) = q at *
    generalize (k : Int) % 10 = r at *
    rw [e, Int.add_mul, show (48 + r - 48 : Int) = r by omega]
    have : 10 * q * p = q * (p * 10) := by rw [Int.mul_comm 10 q, Int.mul_assoc, Int.mul_comm 10 p]
    omega
  more := .inr (by omega)
theorem Printed.done {N : Int} {k : Nat} {ys : List Int} (h : Printed N k ys) : digs ((48 + (k : Int)) :: ys) = N := by
  rw [digs_cons, ← h.sum, show (48 + (k : Int) - 48 : Int) = k by omega]
theorem natL_yes {xs : List Int} (h1 : 1 ≤ xs.length) (h2 : xs.length ≤ 9) (h3 : ∀ y ∈ xs, 48 ≤ y ∧ y ≤ 57) : natL xs = some (digs xs) :=
  if_pos ⟨h1, h2, by
    rw [List.all_eq_true]
    intro y hy
    have := h3 y hy
    unfold digB
    simp
    exact this⟩
theorem numL_pos {x : Int} {xs : List Int} (h : x ≠ 45) : numL (x :: xs) = natL (x :: xs) := by
  unfold numL
  rw [if_neg]
  intro e
  injection e with e
  exact h e
theorem numL_neg (xs : List Int) : numL (45 :: xs) = (natL xs).map fun n => -n := rfl
theorem natL_more {xs : List Int} (h1 : 1 ≤ xs.length) (h3 : ∀ y ∈ xs, 48 ≤ y ∧ y ≤ 57) (c : Int) : (natL (xs ++ [c])).isSome = (digB c && decide (xs.length < 9)) := by
  unfold natL
  have ha : xs.all digB = true := by
    rw [List.all_eq_true]
    intro y hy
    have := h3 y hy
    unfold digB
    simp
    exact this
  have : (xs ++ [c]).all digB = digB c := by rw [List.all_append, ha]; simp
  rw [this, List.length_append, List.length_singleton]
  by_cases h : digB c = true
  · rw [h]
    by_cases hl : xs.length < 9
    · rw [if_pos ⟨by omega, by omega, rfl⟩, decide_eq_true hl]; rfl
    · rw [if_neg (by omega), decide_eq_false hl]; rfl
  · rw [if_neg (fun hh => h hh.2.2)]
    simp [h]
/-- 'string([]byte{x})'. -/
theorem conv_lit {w : World} (x : Int) : (convert 22 9 (.slice (some ⟨w.heap.size, 0, none⟩) 1 1)).run Try.prog (w.alloc (.cells #[.int .u8 x] 5)) = .ok (.string (strOfNums [x])) (w.alloc (.cells #[.int .u8 x] 5)) :=
  run_convert_bytes_arg _ 22 5 Try.underlying22 Try.underlying5 w.heap.size 0 1 1 [x] rfl (fun i hi => by
    have : i = 0 := by omega
    subst this
    rw [Nat.zero_add, World.cell?_alloc_mark]
    rfl) 9 Try.underlying9
theorem num_is (xs : List Int) (r : Option Int) (h : numL xs = r) (hb : Bts xs) (hn : xs.length ≤ 4000000) (W : World) :
    Calls Try.prog 11 #[.string (strOfNums xs)] W fun e w' => e = .returned (.tuple #[.int .i64 (r.getD 0), .bool r.isSome]) ∧ Below W.heap.size W w' := by
  have := num_any xs W hb hn
  rw [show NumPost W xs = fun e w' => e = .returned (.tuple #[.int .i64 (r.getD 0), .bool r.isSome]) ∧ Below W.heap.size W w' by unfold NumPost; rw [h]] at this
  exact this
/-- The number of a string. -/
def numR (s : ByteArray) : Option Int := numL (numsOf s)
theorem numR_str {xs : List Int} (hb : Bts xs) : numR (strOfNums xs) = numL xs := by
  unfold numR
  congr 1
  apply str_inj (numsOf_bts _) hb
  rw [numsOf_back]
theorem num_str (s : ByteArray) (W : World) (h : s.size ≤ 4000000) :
    Calls Try.prog 11 #[.string s] W fun e w' => e = .returned (.tuple #[.int .i64 ((numR s).getD 0), .bool (numR s).isSome]) ∧ Below W.heap.size W w' := by
  have := num_is (numsOf s) (numR s) rfl (numsOf_bts s) (by rw [← strOfNums_size, numsOf_back]; exact h) W
  rwa [numsOf_back] at this
theorem bts_digits {xs : List Int} (h : ∀ y ∈ xs, 48 ≤ y ∧ y ≤ 57) : Bts xs := fun x hx => by have := h x hx; omega

set_option maxRecDepth 4000 in
set_option maxHeartbeats 4000000 in
theorem lawNumbers (n c : Int) (w : World) (h1 : -9223372036854775808 ≤ n) (h2 : n ≤ 9223372036854775807) (hc1 : 0 ≤ c) (hc2 : c ≤ 255) :
    Calls Try.prog 6 #[.int .i64 n, .int .u8 c] w fun e w' => e = .returned (.bool true) ∧ Below w.heap.size w w' := by
  have HNU := Lib.hid (fun W => number_any n 1000000000 W (by omega) (by omega) h1 h2)
  have hm1 := Int.emod_nonneg n (show (1000000000 : Int) ≠ 0 by omega)
  have hm2 := Int.emod_lt_of_pos n (show (0 : Int) < 1000000000 by omega)
  obtain ⟨N, hN⟩ : ∃ N : Nat, n % 1000000000 = N := ⟨(n % 1000000000).toNat, by omega⟩
  rw [hN] at HNU hm2
  clear hN hm1 h1 h2
  have r1 : numR ⟨#[49, 50, 51, 52, 53, 54, 55, 56, 57, 48]⟩ = none := by decide
  have r2 : numR ⟨#[45]⟩ = none := by decide
  have r3 : numR ⟨#[]⟩ = none := by decide
  have HR1 := Lib.hid r1; clear r1
  have HR2 := Lib.hid r2; clear r2
  have HR3 := Lib.hid r3; clear r3
  go_enter Try.func6, Try.ntmps6
  go_wp2_with (first
    | (go_at_call 8; refine (first3_any _).mono ?_; rintro e w1 ⟨rfl, hb1⟩)
    | (go_at_call 19; refine (HNU.out _).mono ?_; rintro e w2 ⟨rfl, rfl⟩))
  go_loopw [6, 7] (fun sv kv wr => ∃ (k : Nat) (ys : List Int), sv = .string (strOfNums ys) ∧ kv = .int .i64 k ∧ k < 1000000000 ∧ Below w.heap.size w wr ∧ Hid (Printed N k ys)) (fun _ kv _ => (intOf kv).toNat)
  case atStart => exact ⟨N, [], rfl, rfl, by omega, hb1, ⟨by simp, by simp [digs], .inl rfl⟩⟩
  case round =>
    obtain ⟨k, ys, rfl, rfl, hk9, hbr, HP⟩ := hrel
    have hys := HP.out.short hm2
    have HK9 := Lib.hid hk9; clear hk9
    have hk9 : (k : Int) < 1000000000 := by have := HK9.out; omega
    have hBB := hbr.size
    have hbw : Below w.heap.size w (wr.alloc (.cells #[.int .u8 (48 + (k : Int) % 10)] 5)) := hbr.alloc hBB _
    have hcv := conv_lit (w := wr) (48 + (k : Int) % 10)
    have hadd := run_add_str (w := wr.alloc (.cells #[.int .u8 (48 + (k : Int) % 10)] 5)) [(48 + (k : Int) % 10)] ys (by simp) (by omega)
    have HBW := Lib.hid hbw; clear hbw
    have HYS := Lib.hid hys; clear hys
    by_cases hk : (k : Int) < 10
    · have hbw := HBW.out
      have hys := HYS.out
      have hzd : ∀ z ∈ [(48 + (k : Int) % 10)] ++ ys, 48 ≤ z ∧ z ≤ 57 := fun z hz => by
        rcases List.mem_append.1 hz with h | h
        · simp at h; omega
        · exact HP.out.digit z h
      have hzs : digs ([(48 + (k : Int) % 10)] ++ ys) = N := by
        have := HP.out.done
        rwa [show (k : Int) % 10 = k by omega]
      have hzl : ([(48 + (k : Int) % 10)] ++ ys).length = ys.length + 1 := by simp
      have hz45 : numL ([(48 + (k : Int) % 10)] ++ ys) = natL ([(48 + (k : Int) % 10)] ++ ys) := numL_pos (by omega)
      have hz45c : numL (([(48 + (k : Int) % 10)] ++ ys) ++ [c]) = natL (([(48 + (k : Int) % 10)] ++ ys) ++ [c]) := numL_pos (by omega)
      generalize hz : [(48 + (k : Int) % 10)] ++ ys = zs at *
      clear hz
      have hnat : natL zs = some (N : Int) := by rw [natL_yes (by omega) (by omega) hzd, hzs]
      have hbz := bts_digits hzd
      have hbc : Bts [c] := by intro x hx; simp at hx; omega
      have hb45 : Bts [45] := by intro x hx; simp at hx; omega
      have n1 : numR (strOfNums zs) = some (N : Int) := by rw [numR_str hbz, hz45, hnat]
      have n2 : numR (strOfNums ([45] ++ zs)) = some (-(N : Int)) := by rw [numR_str (hb45.append hbz), List.singleton_append, numL_neg, hnat]; rfl
      have n3 : (numR (strOfNums (zs ++ [c]))).isSome = (digB c && decide (zs.length < 9)) := by rw [numR_str (hbz.append hbc), hz45c, natL_more (by omega) hzd c]
      have hadd2 := fun W => run_add_str (w := W) [45] zs (by simp) (by omega)
      have hadd3 := fun W => run_add_str (w := W) zs [c] (by omega) (by simp)
      have hcv3 := fun W => conv_lit (w := W) c
      have hsz := strOfNums_size zs
      have q1 : (strOfNums zs).size ≤ 4000000 := by rw [strOfNums_size]; omega
      have q2 : (strOfNums ([45] ++ zs)).size ≤ 4000000 := by rw [strOfNums_size]; simp; omega
      have q3 : (strOfNums (zs ++ [c])).size ≤ 4000000 := by rw [strOfNums_size]; simp; omega
      rw [show strOfNums [45] = ⟨#[45]⟩ from rfl] at hadd2
      generalize strOfNums ([45] ++ zs) = s2 at *
      generalize strOfNums (zs ++ [c]) = s3 at *
      generalize strOfNums zs = sz at *
      generalize strOfNums [c] = sc at *
      clear hzd hzs hz45 hz45c hnat hbc hbz hb45
      generalize zs.length = L at *
      have HL9 := Lib.hid (show L ≤ 9 by omega)
      clear hzl hys
      have HKK := Lib.hid hk; clear hk
      have hkb : decide ((k : Int) < 10) = true := by simpa using HKK.out
      have hNn : ((N : Int) == (N : Int)) = true := by simp
      have Q1 := Lib.hid q1
      have Q2 := Lib.hid q2
      have Q3 := Lib.hid q3
      clear q1 q2 q3
      have r1 := HR1.out
      have r2 := HR2.out
      have r3 := HR3.out
      by_cases hd1 : c < 48
      · rw [show digB c = false by unfold digB; simp; omega, Bool.false_and] at n3
        have hdb : decide ((48 : Int) ≤ c) = false := by simp; omega
        clear hd1
        go_wp2_with (go_at_call 11; refine (num_str _ _ ?_).mono ?_; (first | exact Q1.out | exact Q2.out | exact Q3.out | decide); rintro e w3 ⟨rfl, hb3⟩; first | have hbw := hbw.trans (hb3.mono hbw.size) | have hbw := (hbw.alloc hbw.size (.cells #[.int .u8 c] 5)).trans (hb3.mono (hbw.alloc hbw.size (.cells #[.int .u8 c] 5)).size))
        go_ret
        exact ⟨rfl, hbw⟩
      · by_cases hd2 : 57 < c
        · rw [show digB c = false by unfold digB; simp; omega, Bool.false_and] at n3
          have hdb : decide ((48 : Int) ≤ c) = true := by simp; omega
          have hdb2 : decide (c ≤ (57 : Int)) = false := by simp; omega
          clear hd1 hd2
          go_wp2_with (go_at_call 11; refine (num_str _ _ ?_).mono ?_; (first | exact Q1.out | exact Q2.out | exact Q3.out | decide); rintro e w3 ⟨rfl, hb3⟩; first | have hbw := hbw.trans (hb3.mono hbw.size) | have hbw := (hbw.alloc hbw.size (.cells #[.int .u8 c] 5)).trans (hb3.mono (hbw.alloc hbw.size (.cells #[.int .u8 c] 5)).size))
          go_ret
          exact ⟨rfl, hbw⟩
        · rw [show digB c = true by unfold digB; simp; omega, Bool.true_and] at n3
          by_cases hL : L < 9
          · rw [decide_eq_true hL] at n3
            go_wp2_with (go_at_call 11; refine (num_str _ _ ?_).mono ?_; (first | exact Q1.out | exact Q2.out | exact Q3.out | decide); rintro e w3 ⟨rfl, hb3⟩; first | have hbw := hbw.trans (hb3.mono hbw.size) | have hbw := (hbw.alloc hbw.size (.cells #[.int .u8 c] 5)).trans (hb3.mono (hbw.alloc hbw.size (.cells #[.int .u8 c] 5)).size))
            go_ret
            exact ⟨ret_bool (by simp; omega), hbw⟩
          · rw [decide_eq_false hL] at n3
            go_wp2_with (go_at_call 11; refine (num_str _ _ ?_).mono ?_; (first | exact Q1.out | exact Q2.out | exact Q3.out | decide); rintro e w3 ⟨rfl, hb3⟩; first | have hbw := hbw.trans (hb3.mono hbw.size) | have hbw := (hbw.alloc hbw.size (.cells #[.int .u8 c] 5)).trans (hb3.mono (hbw.alloc hbw.size (.cells #[.int .u8 c] 5)).size))
            go_ret
            exact ⟨ret_bool (by simp; omega), hbw⟩
    · go_wp2_with fail
      go_roundw
      case rel => exact ⟨k / 10, _, rfl, by first | rfl | go_num, by have := HK9.out; omega, HBW.out, HP.out.next (by omega)⟩
      case measure => go_light; simp [intOf]; omega
end Go.Proofs.Ytijdangaffnckaa
