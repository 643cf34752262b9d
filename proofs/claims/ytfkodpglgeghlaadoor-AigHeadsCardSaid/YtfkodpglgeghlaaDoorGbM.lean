/- Contracts of aig.pack, of the document's small, of strconv.AppendUint at base 10 onto a row of the call's own, of aig.literal at uint64. Conditions: the numbers are small; the table of powers of ten is as the program lays it. · Contract of aig.Bytes at a right circuit: its text in few bytes ('textB'). Conditions: at most a thousand inputs, gates and outputs; the table of powers of ten is as the program lays it. · Contract of skolemlaw12.first: it answers true; a text in few bytes is some bytes, and not too many. Conditions: the errors lie as 'Sents' says; the table of powers of ten is as the program lays it. -/
import Derived.Test.YtfkodpglgeghlaaDoorGgM
import Derived.Test.YtfkodpglgeghlaaDoorAppI2
import Derived.Test.YtfkodpglgeghlaaDoorAbM1
import Derived.Laws.Bits64b
import Derived.Laws.Bits128
import Derived.ArgAppend
import Derived.Test.YtfkodpglgeghlaaDoorGrY
import Derived.Test.YtfkodpglgeghlaaDoorFsM
namespace Go.Proofs.YtfkodpglgeghlaaDoor
open Go.RowKit

/-- What a number's bytes are appended to. -/
def PkP (B : Nat) (w : World) (xs : List Int) (e : Ending) (w' : World) : Prop := ∃ v', e = .returned v' ∧ w'.ownsRow B 5 1 v' xs.length (xs.map (Value.int .u8)) ∧ Below B w w'
theorem pack_step {n : Nat} (h : ¬ n < 128) (ys : List Int) : ys ++ packL n = ys ++ [((n % 128 + 128 : Nat) : Int)] ++ packL (n / 128) := by rw [packL_big h]; simp
theorem pack_last {n : Nat} (h : n < 128) (ys : List Int) : ys ++ packL n = ys ++ [(n : Int)] := by rw [packL_small h]

/-- What else was there stays. -/
def Kp (w w' : World) (sv : Value) : Prop := ∀ q, q < w.heap.size → sv.ownBlock ≠ some q → w'.heap[q]? = w.heap[q]?
def Kq (w : World) (sv bv : Value) : Prop := ∀ q, bv.ownBlock = some q → sv.ownBlock = some q ∨ w.heap.size ≤ q
theorem kp_step {B : Nat} {w wr w2 : World} {sv bv v2 : Value} (hs : w.heap.size ≤ wr.heap.size) (h1 : Kp w wr sv) (h2 : Kq w sv bv) (hap : App B wr w2 bv v2) : Kp w w2 sv ∧ Kq w sv v2 := by
  refine ⟨fun q hq hn => ?_, fun q hq => ?_⟩
  · rw [hap.other q (by omega) (fun e => by
      rcases h2 q e.symm with h | h
      · exact hn h
      · omega)]
    exact h1 q hq hn
  · rcases hap.blk with e | ⟨r, e, hr⟩
    · exact h2 q (by rw [← e]; exact hq)
    · rw [e] at hq
      injection hq with hq
      exact .inr (by omega)

set_option maxRecDepth 8000 in
set_option maxHeartbeats 4000000 in
theorem pack_any (B : Nat) (sv : Value) (k : Nat) (xs : List Int) (n : Nat) (w : World) (hown : w.ownsRow B 5 1 sv k (xs.map (Value.int .u8))) (hBw : B ≤ w.heap.size) (hn : n < 1000000000) (hl : (xs ++ packL n).length ≤ 100000) :
    Calls Tryd.prog 28 #[sv, .int .u64 n] w (fun e w' => PkP B w (xs ++ packL n) e w' ∧ Kp w w' sv) := by
  have HL := Lib.hid hl; clear hl
  have HO := Lib.hid hown; clear hown
  go_enter Tryd.func28, Tryd.ntmps28
  go_wp2_with fail
  go_loopw [0, 1] (fun bv nv wr => ∃ (m j : Nat) (ys : List Int), nv = .int .u64 (m : Int) ∧ m < 1000000000 ∧ Hid (ys ++ packL m = xs ++ packL n ∧ wr.ownsRow B 5 1 bv j (ys.map (Value.int .u8)) ∧ Below B w wr ∧ Kp w wr sv ∧ Kq w sv bv)) (fun _ nv _ => (intOf nv).toNat)
  case atStart => exact ⟨n, k, xs, rfl, hn, rfl, HO.out, Below.refl _ _, fun _ _ _ => rfl, fun _ h => .inl h⟩
  case round =>
    obtain ⟨m, j, ys, rfl, hm, HH⟩ := hrel
    obtain ⟨he, hown, hbr, hkp, hkq⟩ := HH.out
    clear HH
    have hsr : B ≤ wr.heap.size := Nat.le_trans hBw hbr.size
    obtain ⟨ab, kb, cb, rfl, HK, HOB⟩ := bopen hown
    have HKS := Lib.hid (fun w2 v2 (hap : App B wr w2 (.slice ab kb cb) v2) => kp_step hbr.size hkp hkq hap)
    clear hkp hkq
    have HBR := Lib.hid hbr
    have hlen := HL.out
    rw [← he, List.length_append] at hlen
    clear hown hbr
    by_cases hc : m < 128
    · have HE := Lib.hid he
      have hp := pack_last hc ys
      have HP := Lib.hid hp
      have hky : ys.length ≤ 100000 := by omega
      have hci : (m : Int) < 128 := by omega
      clear he hp hlen hc
      go_wp2_with (at_builtin; refine wpList_app1G (Value.int .u8) 23 5 (.int .u8 0) 1 Tryd.underlying23 infoU8 rfl (by decide) rfl _ _ rfl wr B _ kb ys (m : Int) rfl HOB.out hsr (by rw [HK.out]; omega) rfl rfl ?_; intro v2 w2 hown2 hap; have HO2 := Lib.hid hown2; have HB2 := Lib.hid (HBR.out.trans hap.below); have HK2 := Lib.hid (HKS.out w2 _ hap); obtain ⟨a2, c2, rfl, _, _⟩ := own_shape hown2; clear hown2 hap)
      go_ret
      refine ⟨⟨_, rfl, ?_, HB2.out⟩, HK2.out.1⟩
      rw [← HE.out, HP.out, List.length_append, ← HK.out]
      exact HO2.out
    · have hp := pack_step hc ys
      rw [he] at hp
      have HP := Lib.hid hp.symm
      have hky : ys.length ≤ 100000 := by omega
      have hci : (128 : Int) ≤ (m : Int) := by omega
      clear he hp hlen hc
      go_wp2_with (at_builtin; refine wpList_app1G (Value.int .u8) 23 5 (.int .u8 0) 1 Tryd.underlying23 infoU8 rfl (by decide) rfl _ _ rfl wr B _ kb ys ((m % 128 + 128 : Nat) : Int) rfl HOB.out hsr (by rw [HK.out]; omega) rfl rfl ?_; intro v2 w2 hown2 hap; have HO2 := Lib.hid hown2; have HB2 := Lib.hid (HBR.out.trans hap.below); have HK2 := Lib.hid (HKS.out w2 _ hap); obtain ⟨a2, c2, rfl, _, _⟩ := own_shape hown2; clear hown2 hap)
      go_roundw
      case rel => exact ⟨m / 128, _, ys ++ [((m % 128 + 128 : Nat) : Int)], by go_num, by omega, HP.out, HO2.out, HB2.out, HK2.out.1, HK2.out.2⟩
      case measure => simp [intOf]; omega

theorem i64_or128 (z : Nat) (h : z < 128) : bits BinOp.or IntKind.i64 (z : Int) 128 = ((z + 128 : Nat) : Int) := by
  have h1 : (BitVec.ofInt 64 (z : Int)).toNat = z := by
    rw [BitVec.ofInt_natCast, BitVec.toNat_ofNat]; exact Nat.mod_eq_of_lt (by omega)
  have h2 : (BitVec.ofInt 64 (128 : Int)).toNat = 128 := by decide
  show IntKind.i64.wrap ((BitVec.ofInt 64 (z : Int) ||| BitVec.ofInt 64 (128 : Int)).toNat : Int) = _
  have h3 := Nat.two_pow_add_eq_or_of_lt (i := 7) (b := z) (by omega) 1
  rw [BitVec.toNat_or, h1, h2, Nat.or_comm, show (128 : Nat) = 2 ^ 7 * 1 by decide, ← h3]
  rw [IntWalk.i64_in _ (by omega)]
  omega
theorem i64_and (m : Nat) : bits BinOp.and IntKind.i64 (m : Int) 127 = ((m % 128 : Nat) : Int) := by rw [i64_and127]; omega

set_option maxRecDepth 8000 in
set_option maxHeartbeats 4000000 in
theorem small8_any (B : Nat) (sv : Value) (k : Nat) (xs : List Int) (n : Nat) (w : World) (hown : w.ownsRow B 5 1 sv k (xs.map (Value.int .u8))) (hBw : B ≤ w.heap.size) (hn : n < 1000000000) (hl : (xs ++ packL n).length ≤ 100000) :
    Calls Tryd.prog 32 #[sv, .int .i64 n] w (PkP B w (xs ++ packL n)) := by
  have HL := Lib.hid hl; clear hl
  have HO := Lib.hid hown; clear hown
  go_enter Tryd.func32, Tryd.ntmps32
  go_wp2_with fail
  go_loopw [0, 1] (fun bv nv wr => ∃ (m j : Nat) (ys : List Int), nv = .int .i64 (m : Int) ∧ m < 1000000000 ∧ Hid (ys ++ packL m = xs ++ packL n ∧ wr.ownsRow B 5 1 bv j (ys.map (Value.int .u8)) ∧ Below B w wr)) (fun _ nv _ => (intOf nv).toNat)
  case atStart => exact ⟨n, k, xs, rfl, hn, rfl, HO.out, Below.refl _ _⟩
  case round =>
    obtain ⟨m, j, ys, rfl, hm, HH⟩ := hrel
    obtain ⟨he, hown, hbr⟩ := HH.out
    clear HH
    have hsr : B ≤ wr.heap.size := Nat.le_trans hBw hbr.size
    obtain ⟨ab, kb, cb, rfl, HK, HOB⟩ := bopen hown
    have HBR := Lib.hid hbr
    have hlen := HL.out
    rw [← he, List.length_append] at hlen
    clear hown hbr
    by_cases hc : m < 128
    · have HE := Lib.hid he
      have hp := pack_last hc ys
      have HP := Lib.hid hp
      have hky : ys.length ≤ 100000 := by omega
      have hci : (m : Int) < 128 := by omega
      clear he hp hlen hc
      go_wp2_with (at_builtin; refine wpList_app1G (Value.int .u8) 23 5 (.int .u8 0) 1 Tryd.underlying23 infoU8 rfl (by decide) rfl _ _ rfl wr B _ kb ys (m : Int) rfl HOB.out hsr (by rw [HK.out]; omega) rfl rfl ?_; intro v2 w2 hown2 hap; have HO2 := Lib.hid hown2; have HB2 := Lib.hid (HBR.out.trans hap.below); obtain ⟨a2, c2, rfl, _, _⟩ := own_shape hown2; clear hown2 hap)
      go_ret
      refine ⟨_, rfl, ?_, HB2.out⟩
      rw [← HE.out, HP.out, List.length_append, ← HK.out]
      exact HO2.out
    · have hp := pack_step hc ys
      rw [he] at hp
      have HP := Lib.hid hp.symm
      have hky : ys.length ≤ 100000 := by omega
      have hci : (128 : Int) ≤ (m : Int) := by omega
      have hq1 := i64_and m
      have hq2 := i64_or128 (m % 128) (by omega)
      obtain ⟨z, hz, hzl⟩ : ∃ z : Nat, m % 128 + 128 = z ∧ z ≤ 255 := ⟨_, rfl, by omega⟩
      rw [hz] at hq2 HP
      obtain ⟨z1, hz1⟩ : ∃ z1 : Nat, m % 128 = z1 := ⟨_, rfl⟩
      rw [hz1] at hq1 hq2
      clear he hp hlen hc hz hz1
      go_wp2_with (at_builtin; refine wpList_app1G (Value.int .u8) 23 5 (.int .u8 0) 1 Tryd.underlying23 infoU8 rfl (by decide) rfl _ _ rfl wr B _ kb ys (z : Int) rfl HOB.out hsr (by rw [HK.out]; omega) rfl rfl ?_; intro v2 w2 hown2 hap; have HO2 := Lib.hid hown2; have HB2 := Lib.hid (HBR.out.trans hap.below); obtain ⟨a2, c2, rfl, _, _⟩ := own_shape hown2; clear hown2 hap)
      go_roundw
      case rel => exact ⟨m / 128, _, ys ++ [(z : Int)], by go_num, by omega, HP.out, HO2.out, HB2.out⟩
      case measure => simp [intOf]; omega

theorem byteCells_dec (u : Nat) : Lib.byteCells (Lib.decDigits u) = (decL u).map (Value.int .u8) := by
  unfold Lib.byteCells decL
  rw [List.map_map]
  rfl
/-- AppendUint onto a row of the call's own. -/
theorem iappU_any (B : Nat) (u : Nat) (h1 : u < 1000000000) (sv : Value) (k : Nat) (xs : List Int) (w : World) (hown : w.ownsRow B 5 1 sv k (xs.map (Value.int .u8))) (hBw : B ≤ w.heap.size) (hl : xs.length ≤ 100000) (ht : Lib.TabBelow Tryd.prog B w "internal/strconv.uint64pow10" .u64 Lib.pow10Tab) :
    Calls Tryd.prog 43 #[sv, .int .u64 u, .int .i64 10] w (PkP B w (xs ++ itoaL u)) := by
  have hk : k = xs.length := by have := hown.1; simpa using this.symm
  subst hk
  refine (Any.internal_strconv_AppendUint_10 (P := Tryd.prog) (ρ := Tryd.laysM176_ren) { Tryd.laysM176 with } B xs.length u (by omega) sv _ w hown hBw (by omega) (ht w (Below.refl _ _))).mono ?_
  rintro e w' ⟨v', rfl, h2, h3, _⟩
  refine ⟨v', rfl, ?_, h3⟩
  rw [byteCells_dec, ← List.map_append, show (Lib.decDigits u).length = (decL u).length by unfold decL; rw [List.length_map], ← List.length_append] at h2
  rw [itoaL_pos (by omega), Int.toNat_natCast]
  exact h2

set_option maxHeartbeats 1000000 in
theorem appU_any (B : Nat) (u : Nat) (h1 : u < 1000000000) (sv : Value) (k : Nat) (xs : List Int) (w : World) (hown : w.ownsRow B 5 1 sv k (xs.map (Value.int .u8))) (hBw : B ≤ w.heap.size) (hl : xs.length ≤ 100000) (ht : Lib.TabBelow Tryd.prog B w "internal/strconv.uint64pow10" .u64 Lib.pow10Tab) :
    Calls Tryd.prog 25 #[sv, .int .u64 u, .int .i64 10] w (PkP B w (xs ++ itoaL u)) := by
  have HI := Lib.hid (iappU_any B u h1 sv k xs w hown hBw hl ht)
  unfold PkP at *
  clear hown ht
  generalize xs ++ itoaL u = ys at *
  go_enter Tryd.func25, Tryd.ntmps25
  go_wp2_with (go_at_call 43; refine HI.out.mono ?_; rintro e w' ⟨v', rfl, h2, h3⟩)
  go_ret
  exact ⟨_, rfl, h2, h3⟩

/-- AppendInt onto a row of the call's own. -/
theorem appI_any (B : Nat) (i : Int) (h0 : 0 ≤ i) (h1 : i < 1000000000) (sv : Value) (k : Nat) (xs : List Int) (w : World) (hown : w.ownsRow B 5 1 sv k (xs.map (Value.int .u8))) (hBw : B ≤ w.heap.size) (hl : xs.length ≤ 100000) (ht : Lib.TabBelow Tryd.prog B w "internal/strconv.uint64pow10" .u64 Lib.pow10Tab) :
    Calls Tryd.prog 26 #[sv, .int .i64 i, .int .i64 10] w (PkP B w (xs ++ itoaL i)) := by
  have hk : k = xs.length := by have := hown.1; simpa using this.symm
  subst hk
  exact appInt_any B i (by omega) h1 sv xs w hown hBw hl ht

set_option maxHeartbeats 400000 in
theorem glitU_any (n : Int) (w : World) (h0 : 0 ≤ n) (h1 : n ≤ 1000000000000) : Calls Tryd.prog 27 #[.int .u64 n] w fun e w' => e = .returned (.int .u64 (2 * n)) ∧ w = w' := by
  go_enter Tryd.func27, Tryd.ntmps27
  go_wp2
  go_ret
  exact ⟨rfl, rfl⟩
end Go.Proofs.YtfkodpglgeghlaaDoor

namespace Go.Proofs.YtfkodpglgeghlaaDoor
open Go.RowKit

/-- 'append(v, y)', v the bytes of a constant: they do not fit. -/
theorem wpList_appConst {ops : Array Oper} {rest : List Oper} {o : Oper} {a : Act} {Q : Exit → Act → World → Prop} (hgd : o.guard = none) (s x : Operand)
    (ho : o.op = .call { callee := .builtin .append, args := #[s, x], argTypes := #[23, 23] })
    (w : World) (g n : Nat) (xs : List Int) (hl : xs.length = n) (hn : n ≤ 1000) (hc : ∀ j v, (xs.map (Value.int .u8))[j]? = some v → w.cell? ⟨g, j, none⟩ = some v) (hg : g < w.heap.size) (y : Int)
    (hs : a.eval s = .slice (some ⟨g, 0, none⟩) n n) (nb : Nat) (hnb : nb = w.heap.size) (hx : a.eval x = .slice (some ⟨nb, 0, none⟩) 1 1)
    (h : ∀ v' w', w'.ownsRow w.heap.size 5 1 v' (n + 1) ((xs ++ [y]).map (Value.int .u8)) → Below w.heap.size w w' → wpList Tryd.prog ops Q rest (a.put o.dst v') w') :
    wpList Tryd.prog ops Q (o :: rest) a (w.alloc (.cells #[.int .u8 y] 5)) := by
  subst hnb
  obtain ⟨i0, hi, hz0, hz1, hz2⟩ := info_parts infoU8
  refine wpList_append_grows _ hgd s x 23 ho 5 i0 (.int .u8 0) 1 1 Tryd.underlying23 hi hz0 hz1 hz2 rfl (by decide) (some ⟨g, 0, none⟩) n n (xs.map (Value.int .u8)) hs (fun e => by cases e) (by simp [hl]) (fun b hb j u hj => ?_) ⟨w.heap.size, 0, none⟩ 1 1 [.int .u8 y] hx rfl (fun j u hj => ?_) (fun u hu => ?_) (by omega) (by unfold maxLen; omega) (by omega) ?_
  · obtain rfl := Option.some.inj hb
    rw [add0, World.cell?_alloc_past _ _ _ hg]
    exact hc j u hj
  · match j, hj with
    | 0, hj =>
      rw [add0, World.cell?_alloc_at _ _ _ _ rfl]
      simpa using hj
  · have e := List.mem_singleton.1 hu
    subst e; rfl
  · intro v' w' h2 h3
    refine h v' w' ?_ (((Below.refl _ w).alloc (Nat.le_refl _) _).grown h3 (by simp) (fun k hk => by cases hk))
    have := own_base h2 (show w.heap.size ≤ _ by simp)
    simpa using this
def arr5 (a b c d e : Int) : Value := .agg #[.int .u64 a, .int .u64 b, .int .u64 c, .int .u64 d, .int .u64 e]
theorem ixa0 (a b c d e : Int) (w : World) : (Instr.index 50 (.agg #[.int .u64 a, .int .u64 b, .int .u64 c, .int .u64 d, .int .u64 e]) (.int .i64 0)).run Tryd.prog w = .ok (.int .u64 a) w := by kernel_rfl
theorem ixa1 (a b c d e : Int) (w : World) : (Instr.index 50 (.agg #[.int .u64 a, .int .u64 b, .int .u64 c, .int .u64 d, .int .u64 e]) (.int .i64 1)).run Tryd.prog w = .ok (.int .u64 b) w := by kernel_rfl
theorem ixa2 (a b c d e : Int) (w : World) : (Instr.index 50 (.agg #[.int .u64 a, .int .u64 b, .int .u64 c, .int .u64 d, .int .u64 e]) (.int .i64 2)).run Tryd.prog w = .ok (.int .u64 c) w := by kernel_rfl
theorem ixa3 (a b c d e : Int) (w : World) : (Instr.index 50 (.agg #[.int .u64 a, .int .u64 b, .int .u64 c, .int .u64 d, .int .u64 e]) (.int .i64 3)).run Tryd.prog w = .ok (.int .u64 d) w := by kernel_rfl
theorem ixa4 (a b c d e : Int) (w : World) : (Instr.index 50 (.agg #[.int .u64 a, .int .u64 b, .int .u64 c, .int .u64 d, .int .u64 e]) (.int .i64 4)).run Tryd.prog w = .ok (.int .u64 e) w := by kernel_rfl
theorem packL_len9 {n : Nat} (h : n < 1000000000) : (packL n).length ≤ 5 := packL_len 4 n (by omega)
theorem gatesB_len (i : Nat) : ∀ (ps : List (Int × Int)) (k : Nat), i + k + ps.length ≤ 100000 → (∀ j, j < ps.length → 0 ≤ (ps.getD j (0, 0)).2 ∧ (ps.getD j (0, 0)).2 ≤ (ps.getD j (0, 0)).1 ∧ (ps.getD j (0, 0)).1 ≤ 2 * ((i : Int) + k + j + 1) - 1) → (gatesB i k ps).length ≤ 10 * ps.length
  | [], k, _, _ => by simp [gatesB]
  | x :: ps, k, hl, h => by
    have hx := h 0 (by simp)
    simp only [List.getD_cons_zero] at hx
    simp only [List.length_cons] at hl
    have ih := gatesB_len i ps (k + 1) (by omega) (fun j hj => by
      have := h (j + 1) (by simpa using hj)
      simp only [List.getD_cons_succ] at this
      omega)
    have h1 := packL_len9 (n := (2 * ((i : Int) + (k : Int) + 1) - x.1).toNat) (by omega)
    have h2 := packL_len9 (n := (x.1 - x.2).toNat) (by omega)
    rw [gatesB, List.length_append, List.length_append, List.length_cons]
    omega
def headB5 (a b c d e : Int) : List Int := [97, 105, 103] ++ [32] ++ itoaL a ++ [32] ++ itoaL b ++ [32] ++ itoaL c ++ [32] ++ itoaL d ++ [32] ++ itoaL e ++ [10]
theorem headB5_eq (a b c d e : Int) : headB5 a b c d e = [97, 105, 103, 32] ++ lineL [a, b, c, d, e] := by
  have h := lineL_5 a b c d e []
  rw [List.append_nil] at h
  rw [h]
  unfold headB5
  simp
theorem itoaL_nat {n : Nat} (h : n < 1000000000) : (itoaL (n : Int)).length ≤ 9 := itoaL_bound (by omega) (by omega)

set_option maxRecDepth 8000 in
set_option maxHeartbeats 16000000 in
theorem gbyt_any (i : Nat) (u v : Value) (ps : List (Int × Int)) (os : List Int) (w : World) (hU : PRow w u ps) (hV : Row w v os) (hi : i ≤ 1000) (hp : ps.length ≤ 1000) (ho : os.length ≤ 1000)
    (hpb : ∀ j, j < ps.length → 0 ≤ (ps.getD j (0, 0)).2 ∧ (ps.getD j (0, 0)).2 ≤ (ps.getD j (0, 0)).1 ∧ (ps.getD j (0, 0)).1 ≤ 2 * ((i : Int) + j + 1) - 1) (hob : ∀ o ∈ os, 0 ≤ o ∧ o < 1000000000) (ht : Tabs w) :
    Calls Tryd.prog 11 #[circV (i : Int) u v] w fun e w' => ∃ v', e = .returned v' ∧ w'.ownsRow w.heap.size 5 1 v' (textB i ps os).length ((textB i ps os).map (Value.int .u8)) ∧ Below w.heap.size w w' := by
  obtain ⟨au, cu, rfl, hcu, hcm, hx⟩ := hU
  obtain ⟨av, cv, rfl, hcv, hcvm, hy⟩ := hV
  unfold maxLen at hcm hcvm
  have HB0 := Lib.hid (show Below w.heap.size w (byW w (i : Int) (.slice au ps.length cu) (.slice av os.length cv)) from (Below.refl _ w).alloc (Nat.le_refl _) _)
  have HBX := Lib.hid (fun W (hW : Below (w.heap.size + 1) (byW w (i : Int) (.slice au ps.length cu) (.slice av os.length cv)) W) => by_box hW)
  have HTT := Lib.hid (fun W (hW : Below w.heap.size w W) => ht.at (w.heap.size + 1) hW (by omega))
  have HX : Hid (∀ k, k < ps.length → ∃ b off, au = some ⟨b, off, none⟩ ∧ ∀ W, Below w.heap.size w W → W.cell? ⟨b, off + k * 2, none⟩ = some (.int .i64 (ps.getD k (0, 0)).1) ∧ W.cell? ⟨b, off + k * 2 + 1, none⟩ = some (.int .i64 (ps.getD k (0, 0)).2)) := fun k hk => by
    obtain ⟨b, off, e, hbl, hc⟩ := hx.resolve_left (by omega)
    exact ⟨b, off, e, fun W hW => ⟨(hW.cell (p := ⟨b, off + k * 2, none⟩) hbl).trans (hc k hk).1, (hW.cell (p := ⟨b, off + k * 2 + 1, none⟩) hbl).trans (hc k hk).2⟩⟩
  have HY : Hid (∀ k, k < os.length → ∃ b off, av = some ⟨b, off, none⟩ ∧ ∀ W, Below w.heap.size w W → W.cell? ⟨b, off + k, none⟩ = some (.int .i64 (os.getD k 0))) := fun k hk => by
    obtain ⟨b, off, e, hbl, hc⟩ := hy.resolve_left (by omega)
    exact ⟨b, off, e, fun W hW => (hW.cell (p := ⟨b, off + k, none⟩) hbl).trans (hc k hk)⟩
  have HPB := Lib.hid hpb
  have HOB : Hid (∀ k, k < os.length → 0 ≤ os.getD k 0 ∧ os.getD k 0 < 1000000000) := fun k hk => by
    have := hob _ (List.getElem_mem hk)
    simpa [List.getD, hk] using this
  have HOL : Hid (∀ k, k ≤ os.length → (outsT (os.take k)).length ≤ 11 * 1000) := fun k hk => by
    have := outsT_len (os.take k) (fun o h => hob o (List.mem_of_mem_take h))
    rw [List.length_take] at this
    omega
  have HGL : Hid (∀ k, k ≤ ps.length → (gatesB i 0 (ps.take k)).length ≤ 10 * 1000) := fun k hk => by
    have := gatesB_len i (ps.take k) 0 (by rw [List.length_take]; omega) (fun j hj => by
      have hj2 : j < ps.length := by rw [List.length_take] at hj; omega
      have hj3 : j < k := by rw [List.length_take] at hj; omega
      have := hpb j hj2
      rw [show (ps.take k).getD j (0, 0) = ps.getD j (0, 0) by simp [List.getD, hj3]]
      omega)
    rw [List.length_take] at this
    omega
  have HOS : Hid (∀ k, k < os.length → outsT (os.take (k + 1)) = outsT (os.take k) ++ lineL [os.getD k 0]) := fun k hk => outsT_succ os k hk
  have HGS : Hid (∀ k, k < ps.length → gatesB i 0 (ps.take (k + 1)) = gatesB i 0 (ps.take k) ++ packL (2 * ((i : Int) + (k : Int) + 1) - (ps.getD k (0, 0)).1).toNat ++ packL ((ps.getD k (0, 0)).1 - (ps.getD k (0, 0)).2).toNat) := fun k hk => gatesB_succ i ps k hk
  obtain ⟨NA, hNA⟩ : ∃ NA : Nat, (i : Int) + (ps.length : Int) = (NA : Int) := ⟨i + ps.length, by omega⟩
  have HEND : Hid (textB i ps os = headB5 (NA : Int) (i : Int) ((0 : Nat) : Int) (os.length : Int) (ps.length : Int) ++ outsT (os.take os.length) ++ gatesB i 0 (ps.take ps.length)) := by
    unfold Hid textB headB
    rw [List.take_length, List.take_length, headB5_eq, hNA]
    rfl
  have HO0 : Hid (outsT (os.take 0) = []) := rfl
  have HG0 : Hid (gatesB i 0 (ps.take 0) = []) := rfl
  have hNAl : NA ≤ 2000 := by omega
  have hwa : IntKind.u64.wrap ((i : Int) + (ps.length : Int)) = (NA : Int) := by rw [hNA]; exact IntWalk.u64_in _ (by omega)
  clear hx hy hpb hob ht hNA
  generalize ps.length = m at *
  generalize os.length = l at *
  have hmx : max (i : Int) 0 = (i : Int) := by omega
  unfold circV
  unfold byW at *
  have hw0s : (w.alloc (.cells #[.int .i64 (i : Int), .slice au m cu, .slice av l cv] 27)).heap.size = w.heap.size + 1 := by simp
  have hzq : ∀ q, ((w.alloc (.cells #[.int .i64 (i : Int), .slice au m cu, .slice av l cv] 27)).drewN q).heap.size = w.heap.size + 1 := fun q => by simp
  have kc : ∀ q, (convert 23 23 (.slice (some ⟨w.heap.size + 1, 0, none⟩) 3 3)).run Tryd.prog (((w.alloc (.cells #[.int .i64 (i : Int), .slice au m cu, .slice av l cv] 27)).drewN q).alloc (.cells #[.int .u8 97, .int .u8 105, .int .u8 103] 5)) = .ok (.slice (some ⟨w.heap.size + 1, 0, none⟩) 3 3) (((w.alloc (.cells #[.int .i64 (i : Int), .slice au m cu, .slice av l cv] 27)).drewN q).alloc (.cells #[.int .u8 97, .int .u8 105, .int .u8 103] 5 (3, 4))) := fun q => by
    have := Lib.run_convert_bytes_const (P := Tryd.prog) ((w.alloc (.cells #[.int .i64 (i : Int), .slice au m cu, .slice av l cv] 27)).drewN q) 23 5 #[.int .u8 97, .int .u8 105, .int .u8 103] 3 3 Tryd.underlying23 Tryd.underlying5
    rw [hzq q] at this
    exact this
  go_enter Tryd.func11, Tryd.ntmps11
  go_wp2_with fail
  go_quiet (fail)
  go_wp2_with fail
  have hb2 : Below (w.heap.size + 1) (w.alloc (.cells #[.int .i64 (i : Int), .slice au m cu, .slice av l cv] 27)) (((w.alloc (.cells #[.int .i64 (i : Int), .slice au m cu, .slice av l cv] 27)).drewN nq).alloc (.cells #[.int .u8 97, .int .u8 105, .int .u8 103] 5 (3, 4))) := (below_drewN (Below.refl _ _) nq).alloc (by rw [hzq]; exact Nat.le_refl _) _
  have hcell : ∀ j x, (([97, 105, 103] : List Int).map (Value.int .u8))[j]? = some x → (((w.alloc (.cells #[.int .i64 (i : Int), .slice au m cu, .slice av l cv] 27)).drewN nq).alloc (.cells #[.int .u8 97, .int .u8 105, .int .u8 103] 5 (3, 4))).cell? ⟨w.heap.size + 1, j, none⟩ = some x := fun j x hj => by
    rw [← hzq nq, World.cell?_alloc_mark]
    simpa using hj
  have hs2 : (((w.alloc (.cells #[.int .i64 (i : Int), .slice au m cu, .slice av l cv] 27)).drewN nq).alloc (.cells #[.int .u8 97, .int .u8 105, .int .u8 103] 5 (3, 4))).heap.size = w.heap.size + 1 + 1 := by simp
  have hw0 := HB0.out
  generalize hw2 : ((w.alloc (.cells #[.int .i64 (i : Int), .slice au m cu, .slice av l cv] 27)).drewN nq).alloc (.cells #[.int .u8 97, .int .u8 105, .int .u8 103] 5 (3, 4)) = w2 at *
  clear hw2 kc hzq hwa hmx
  generalize hw1 : w.alloc (.cells #[.int .i64 (i : Int), .slice au m cu, .slice av l cv] 27) = w1 at *
  clear hw1 hw0
  have HB2 := Lib.hid hb2
  have HCE := Lib.hid hcell
  have HS2 := Lib.hid hs2
  have hql : w.heap.size + 1 < w2.heap.size := by omega
  have HTW : Hid (∀ W, Below (w.heap.size + 1) w1 W → Lib.TabBelow Tryd.prog (w.heap.size + 1) W "internal/strconv.uint64pow10" .u64 Lib.pow10Tab) := fun W hW => HTT.out W (HB0.out.trans (hW.mono (by omega)))
  have HN1 : Hid (NA < 1000000000 ∧ i < 1000000000 ∧ l < 1000000000 ∧ m < 1000000000) := by unfold Hid; omega
  have ix0 := fun W => ixa0 (NA : Int) (i : Int) 0 (l : Int) (m : Int) W
  have ix1 := fun W => ixa1 (NA : Int) (i : Int) 0 (l : Int) (m : Int) W
  have ix2 := fun W => ixa2 (NA : Int) (i : Int) 0 (l : Int) (m : Int) W
  have ix3 := fun W => ixa3 (NA : Int) (i : Int) 0 (l : Int) (m : Int) W
  have ix4 := fun W => ixa4 (NA : Int) (i : Int) 0 (l : Int) (m : Int) W
  clear hb2 hcell hs2
  obtain ⟨n3, hn3⟩ : ∃ n3 : Nat, (3 : Nat) = n3 := ⟨_, rfl⟩
  rw [show Value.slice (some ⟨w.heap.size + 1, 0, none⟩) 3 3 = Value.slice (some ⟨w.heap.size + 1, 0, none⟩) n3 n3 by rw [← hn3]]
  have HN3 := Lib.hid hn3
  have hn3b : n3 ≤ 1000 := by omega
  clear hn3
  refine wp_loop_rounds 6 ?_
  rw [rounds_succ]
  go_wp2_with (first
    | (at_builtin; refine wpList_appConst rfl _ _ rfl w2 (w.heap.size + 1) n3 [97, 105, 103] HN3.out hn3b HCE.out hql 32 rfl w2.heap.size rfl rfl ?_; intro v3 w3 hown3 hap3; have HB3 := Lib.hid (HB2.out.trans (hap3.mono (by have := HS2.out; omega))); have HO3 : Hid (w3.ownsRow (w.heap.size + 1) 5 1 v3 (n3 + 1) ((([97, 105, 103] : List Int) ++ [32]).map (Value.int .u8))) := own_base hown3 (by have := HS2.out; omega); have hs3 : w.heap.size + 1 ≤ w3.heap.size := (by have := hap3.size; have := HS2.out; omega); have HL3 : Hid ((([97, 105, 103] : List Int) ++ [32]).length ≤ 4) := (by unfold Hid; simp); obtain ⟨a3, c3, rfl, _, _⟩ := own_shape hown3; clear hown3 hap3)
    | (go_at_call 25; refine (appU_any (w.heap.size + 1) NA HN1.out.1 _ _ (([97, 105, 103] : List Int) ++ [32]) w3 HO3.out hs3 (by have := HL3.out; omega) (HTW.out w3 HB3.out)).mono ?_; rintro e4 w4 ⟨v4, rfl, hown4, hb4⟩; have HB4 := Lib.hid (HB3.out.trans hb4); have hs4 : w.heap.size + 1 ≤ w4.heap.size := Nat.le_trans hs3 hb4.size; have HL4 : Hid (((([97, 105, 103] : List Int) ++ [32]) ++ itoaL ((NA : Nat) : Int)).length ≤ 13) := (by have := HL3.out; have := itoaL_nat HN1.out.1; unfold Hid; rw [List.length_append]; omega); obtain ⟨a4, k4, c4, rfl, HK4, HP4⟩ := bopen hown4; clear hown4 hb4))
  rw [rounds_succ]
  go_wp2_with (first
    | (at_builtin; refine wpList_app1G (Value.int .u8) 23 5 (.int .u8 0) 1 Tryd.underlying23 infoU8 rfl (by decide) rfl _ _ rfl w4 (w.heap.size + 1) _ k4 ((([97, 105, 103] : List Int) ++ [32]) ++ itoaL ((NA : Nat) : Int)) 32 rfl HP4.out hs4 (by rw [HK4.out]; have := HL4.out; omega) rfl rfl ?_; intro v5 w5 hown5 hap5; have HB5 := Lib.hid (HB4.out.trans hap5.below); have hs5 : w.heap.size + 1 ≤ w5.heap.size := Nat.le_trans hs4 hap5.below.size; have HO5 := Lib.hid hown5; have HL5 : Hid ((((([97, 105, 103] : List Int) ++ [32]) ++ itoaL ((NA : Nat) : Int)) ++ [32]).length ≤ 14) := (by have := HL4.out; unfold Hid; rw [List.length_append]; simp only [List.length_cons, List.length_nil]; omega); obtain ⟨a5, c5, rfl, _, _⟩ := own_shape hown5; clear hown5 hap5)
    | (go_at_call 25; refine (appU_any (w.heap.size + 1) i HN1.out.2.1 _ _ (((([97, 105, 103] : List Int) ++ [32]) ++ itoaL ((NA : Nat) : Int)) ++ [32]) w5 HO5.out hs5 (by have := HL5.out; omega) (HTW.out w5 HB5.out)).mono ?_; rintro e6 w6 ⟨v6, rfl, hown6, hb6⟩; have HB6 := Lib.hid (HB5.out.trans hb6); have hs6 : w.heap.size + 1 ≤ w6.heap.size := Nat.le_trans hs5 hb6.size; have HL6 : Hid (((((([97, 105, 103] : List Int) ++ [32]) ++ itoaL ((NA : Nat) : Int)) ++ [32]) ++ itoaL ((i : Nat) : Int)).length ≤ 23) := (by have := HL5.out; have := itoaL_nat HN1.out.2.1; unfold Hid; rw [List.length_append]; omega); obtain ⟨a6, k6, c6, rfl, HK6, HP6⟩ := bopen hown6; clear hown6 hb6))
  rw [rounds_succ]
  go_wp2_with (first
    | (at_builtin; refine wpList_app1G (Value.int .u8) 23 5 (.int .u8 0) 1 Tryd.underlying23 infoU8 rfl (by decide) rfl _ _ rfl w6 (w.heap.size + 1) _ k6 ((((([97, 105, 103] : List Int) ++ [32]) ++ itoaL ((NA : Nat) : Int)) ++ [32]) ++ itoaL ((i : Nat) : Int)) 32 rfl HP6.out hs6 (by rw [HK6.out]; have := HL6.out; omega) rfl rfl ?_; intro v7 w7 hown7 hap7; have HB7 := Lib.hid (HB6.out.trans hap7.below); have hs7 : w.heap.size + 1 ≤ w7.heap.size := Nat.le_trans hs6 hap7.below.size; have HO7 := Lib.hid hown7; have HL7 : Hid ((((((([97, 105, 103] : List Int) ++ [32]) ++ itoaL ((NA : Nat) : Int)) ++ [32]) ++ itoaL ((i : Nat) : Int)) ++ [32]).length ≤ 24) := (by have := HL6.out; unfold Hid; rw [List.length_append]; simp only [List.length_cons, List.length_nil]; omega); obtain ⟨a7, c7, rfl, _, _⟩ := own_shape hown7; clear hown7 hap7)
    | (go_at_call 25; refine (appU_any (w.heap.size + 1) 0 (by decide) _ _ (((((([97, 105, 103] : List Int) ++ [32]) ++ itoaL ((NA : Nat) : Int)) ++ [32]) ++ itoaL ((i : Nat) : Int)) ++ [32]) w7 HO7.out hs7 (by have := HL7.out; omega) (HTW.out w7 HB7.out)).mono ?_; rintro e8 w8 ⟨v8, rfl, hown8, hb8⟩; have HB8 := Lib.hid (HB7.out.trans hb8); have hs8 : w.heap.size + 1 ≤ w8.heap.size := Nat.le_trans hs7 hb8.size; have HL8 : Hid (((((((([97, 105, 103] : List Int) ++ [32]) ++ itoaL ((NA : Nat) : Int)) ++ [32]) ++ itoaL ((i : Nat) : Int)) ++ [32]) ++ itoaL ((0 : Nat) : Int)).length ≤ 33) := (by have := HL7.out; have := itoaL_nat (n := 0) (by decide); unfold Hid; rw [List.length_append]; omega); obtain ⟨a8, k8, c8, rfl, HK8, HP8⟩ := bopen hown8; clear hown8 hb8))
  rw [rounds_succ]
  go_wp2_with (first
    | (at_builtin; refine wpList_app1G (Value.int .u8) 23 5 (.int .u8 0) 1 Tryd.underlying23 infoU8 rfl (by decide) rfl _ _ rfl w8 (w.heap.size + 1) _ k8 ((((((([97, 105, 103] : List Int) ++ [32]) ++ itoaL ((NA : Nat) : Int)) ++ [32]) ++ itoaL ((i : Nat) : Int)) ++ [32]) ++ itoaL ((0 : Nat) : Int)) 32 rfl HP8.out hs8 (by rw [HK8.out]; have := HL8.out; omega) rfl rfl ?_; intro v9 w9 hown9 hap9; have HB9 := Lib.hid (HB8.out.trans hap9.below); have hs9 : w.heap.size + 1 ≤ w9.heap.size := Nat.le_trans hs8 hap9.below.size; have HO9 := Lib.hid hown9; have HL9 : Hid ((((((((([97, 105, 103] : List Int) ++ [32]) ++ itoaL ((NA : Nat) : Int)) ++ [32]) ++ itoaL ((i : Nat) : Int)) ++ [32]) ++ itoaL ((0 : Nat) : Int)) ++ [32]).length ≤ 34) := (by have := HL8.out; unfold Hid; rw [List.length_append]; simp only [List.length_cons, List.length_nil]; omega); obtain ⟨a9, c9, rfl, _, _⟩ := own_shape hown9; clear hown9 hap9)
    | (go_at_call 25; refine (appU_any (w.heap.size + 1) l HN1.out.2.2.1 _ _ (((((((([97, 105, 103] : List Int) ++ [32]) ++ itoaL ((NA : Nat) : Int)) ++ [32]) ++ itoaL ((i : Nat) : Int)) ++ [32]) ++ itoaL ((0 : Nat) : Int)) ++ [32]) w9 HO9.out hs9 (by have := HL9.out; omega) (HTW.out w9 HB9.out)).mono ?_; rintro e10 w10 ⟨v10, rfl, hown10, hb10⟩; have HB10 := Lib.hid (HB9.out.trans hb10); have hs10 : w.heap.size + 1 ≤ w10.heap.size := Nat.le_trans hs9 hb10.size; have HL10 : Hid (((((((((([97, 105, 103] : List Int) ++ [32]) ++ itoaL ((NA : Nat) : Int)) ++ [32]) ++ itoaL ((i : Nat) : Int)) ++ [32]) ++ itoaL ((0 : Nat) : Int)) ++ [32]) ++ itoaL ((l : Nat) : Int)).length ≤ 43) := (by have := HL9.out; have := itoaL_nat HN1.out.2.2.1; unfold Hid; rw [List.length_append]; omega); obtain ⟨a10, k10, c10, rfl, HK10, HP10⟩ := bopen hown10; clear hown10 hb10))
  rw [rounds_succ]
  go_wp2_with (first
    | (at_builtin; refine wpList_app1G (Value.int .u8) 23 5 (.int .u8 0) 1 Tryd.underlying23 infoU8 rfl (by decide) rfl _ _ rfl w10 (w.heap.size + 1) _ k10 ((((((((([97, 105, 103] : List Int) ++ [32]) ++ itoaL ((NA : Nat) : Int)) ++ [32]) ++ itoaL ((i : Nat) : Int)) ++ [32]) ++ itoaL ((0 : Nat) : Int)) ++ [32]) ++ itoaL ((l : Nat) : Int)) 32 rfl HP10.out hs10 (by rw [HK10.out]; have := HL10.out; omega) rfl rfl ?_; intro v11 w11 hown11 hap11; have HB11 := Lib.hid (HB10.out.trans hap11.below); have hs11 : w.heap.size + 1 ≤ w11.heap.size := Nat.le_trans hs10 hap11.below.size; have HO11 := Lib.hid hown11; have HL11 : Hid ((((((((((([97, 105, 103] : List Int) ++ [32]) ++ itoaL ((NA : Nat) : Int)) ++ [32]) ++ itoaL ((i : Nat) : Int)) ++ [32]) ++ itoaL ((0 : Nat) : Int)) ++ [32]) ++ itoaL ((l : Nat) : Int)) ++ [32]).length ≤ 44) := (by have := HL10.out; unfold Hid; rw [List.length_append]; simp only [List.length_cons, List.length_nil]; omega); obtain ⟨a11, c11, rfl, _, _⟩ := own_shape hown11; clear hown11 hap11)
    | (go_at_call 25; refine (appU_any (w.heap.size + 1) m HN1.out.2.2.2 _ _ (((((((((([97, 105, 103] : List Int) ++ [32]) ++ itoaL ((NA : Nat) : Int)) ++ [32]) ++ itoaL ((i : Nat) : Int)) ++ [32]) ++ itoaL ((0 : Nat) : Int)) ++ [32]) ++ itoaL ((l : Nat) : Int)) ++ [32]) w11 HO11.out hs11 (by have := HL11.out; omega) (HTW.out w11 HB11.out)).mono ?_; rintro e12 w12 ⟨v12, rfl, hown12, hb12⟩; have HB12 := Lib.hid (HB11.out.trans hb12); have hs12 : w.heap.size + 1 ≤ w12.heap.size := Nat.le_trans hs11 hb12.size; have HL12 : Hid (((((((((((([97, 105, 103] : List Int) ++ [32]) ++ itoaL ((NA : Nat) : Int)) ++ [32]) ++ itoaL ((i : Nat) : Int)) ++ [32]) ++ itoaL ((0 : Nat) : Int)) ++ [32]) ++ itoaL ((l : Nat) : Int)) ++ [32]) ++ itoaL ((m : Nat) : Int)).length ≤ 53) := (by have := HL11.out; have := itoaL_nat HN1.out.2.2.2; unfold Hid; rw [List.length_append]; omega); obtain ⟨a12, k12, c12, rfl, HK12, HP12⟩ := bopen hown12; clear hown12 hb12))
  clear ix0 ix1 ix2 ix3 ix4
  rw [rounds_succ]
  go_wp2_with (at_builtin; refine wpList_app1G (Value.int .u8) 23 5 (.int .u8 0) 1 Tryd.underlying23 infoU8 rfl (by decide) rfl _ _ rfl w12 (w.heap.size + 1) _ k12 ((((((((((([97, 105, 103] : List Int) ++ [32]) ++ itoaL ((NA : Nat) : Int)) ++ [32]) ++ itoaL ((i : Nat) : Int)) ++ [32]) ++ itoaL ((0 : Nat) : Int)) ++ [32]) ++ itoaL ((l : Nat) : Int)) ++ [32]) ++ itoaL ((m : Nat) : Int)) 10 rfl HP12.out hs12 (by rw [HK12.out]; have := HL12.out; omega) rfl rfl ?_; intro v99 w99 hown99 hap99; have HB99 := Lib.hid (HB12.out.trans hap99.below); have HO99 := Lib.hid hown99; have HL99 : Hid ((((((((((((([97, 105, 103] : List Int) ++ [32]) ++ itoaL ((NA : Nat) : Int)) ++ [32]) ++ itoaL ((i : Nat) : Int)) ++ [32]) ++ itoaL ((0 : Nat) : Int)) ++ [32]) ++ itoaL ((l : Nat) : Int)) ++ [32]) ++ itoaL ((m : Nat) : Int)) ++ [10]).length ≤ 100) := (by have := HL12.out; unfold Hid; rw [List.length_append]; simp only [List.length_cons, List.length_nil]; omega); obtain ⟨g0, g1, g2⟩ := (HBX.out _ HB99.out).1; have hs99 := (HBX.out _ HB99.out).2; obtain ⟨a99, k99, c99, rfl, HK99, HP99⟩ := bopen hown99; clear hown99 hap99)
  have HHD : Hid (headB5 (NA : Int) (i : Int) ((0 : Nat) : Int) (l : Int) (m : Int) = (((((((((((([97, 105, 103] : List Int) ++ [32]) ++ itoaL ((NA : Nat) : Int)) ++ [32]) ++ itoaL ((i : Nat) : Int)) ++ [32]) ++ itoaL ((0 : Nat) : Int)) ++ [32]) ++ itoaL ((l : Nat) : Int)) ++ [32]) ++ itoaL ((m : Nat) : Int)) ++ [10])) := rfl
  have HHE : Hid (textB i ps os = (((((((((((([97, 105, 103] : List Int) ++ [32]) ++ itoaL ((NA : Nat) : Int)) ++ [32]) ++ itoaL ((i : Nat) : Int)) ++ [32]) ++ itoaL ((0 : Nat) : Int)) ++ [32]) ++ itoaL ((l : Nat) : Int)) ++ [32]) ++ itoaL ((m : Nat) : Int)) ++ [10]) ++ outsT (os.take l) ++ gatesB i 0 (ps.take m)) := HEND.out
  clear HHD HEND
  generalize (((((((((((([97, 105, 103] : List Int) ++ [32]) ++ itoaL ((NA : Nat) : Int)) ++ [32]) ++ itoaL ((i : Nat) : Int)) ++ [32]) ++ itoaL ((0 : Nat) : Int)) ++ [32]) ++ itoaL ((l : Nat) : Int)) ++ [32]) ++ itoaL ((m : Nat) : Int)) ++ [10]) = hd at *
  clear HL3 HL4 HL5 HL6 HL7 HL8 HL9 HL10 HL11 HL12 HO3 HO5 HO7 HO9 HO11 HK4 HK6 HK8 HK10 HK12 HP4 HP6 HP8 HP10 HP12 HB3 HB4 HB5 HB6 HB7 HB8 HB9 HB10 HB11 HB12
  clear g0 g1
  go_loopw [5, 48] (fun bv iv wr => ∃ k : Nat, k ≤ l ∧ iv = .int .i64 (k : Int) ∧ Hid (wr.ownsRow (w.heap.size + 1) 5 1 bv (hd ++ outsT (os.take k)).length ((hd ++ outsT (os.take k)).map (Value.int .u8)) ∧ Below (w.heap.size + 1) w1 wr)) (fun _ iv _ => l - (intOf iv).toNat)
  case atStart => exact ⟨0, Nat.zero_le _, rfl, by rw [HO0.out, List.append_nil, ← HK99.out]; exact HP99.out, HB99.out⟩
  case round =>
    obtain ⟨k, hk, rfl, HH⟩ := hrel
    obtain ⟨hown, hbr⟩ := HH.out
    clear HH HP99 HB99 HK99
    have hsr : w.heap.size + 1 ≤ wr.heap.size := by have := hbr.size; omega
    by_cases hlt : k < l
    · obtain ⟨ab, kb, cb, rfl, HK, HO⟩ := bopen hown
      obtain ⟨b, off, rfl, hcl⟩ := HY.out k hlt
      have y0 := hcl wr (HB0.out.trans (hbr.mono (by omega)))
      have HS1 : Hid (hd ++ outsT (os.take (k + 1)) = hd ++ outsT (os.take k) ++ itoaL (os.getD k 0) ++ [10]) := by unfold Hid; rw [HOS.out k hlt]; unfold lineL; rw [bodyL_one]; simp
      have HLN : Hid ((hd ++ outsT (os.take k)).length ≤ 20000) := by unfold Hid; rw [List.length_append]; have := HL99.out; have := HOL.out k hk; omega
      obtain ⟨ob0, ob1⟩ := HOB.out k hlt
      have HIB := Lib.hid (itoaL_bound ob0 ob1)
      have HBR := Lib.hid hbr
      clear hown hbr HTT HBX HX HY hcl HGL HGS HPB
      generalize os.getD k 0 = x at *
      go_wp2_with (first
        | (go_at_call 26; refine (appI_any (w.heap.size + 1) x ob0 ob1 _ _ (hd ++ outsT (os.take k)) wr HO.out hsr (by have := HLN.out; omega) (HTW.out wr HBR.out)).mono ?_; rintro e3 w3 ⟨v3, rfl, hown3, hb3⟩; have HB3 := Lib.hid (HBR.out.trans hb3); have hs3 : w.heap.size + 1 ≤ w3.heap.size := Nat.le_trans hsr hb3.size; have HL3 : Hid ((hd ++ outsT (os.take k) ++ itoaL x).length ≤ 30000) := (by have := HLN.out; have := HIB.out; unfold Hid; rw [List.length_append]; omega); obtain ⟨a3, k3, c3, rfl, HK3, HO3⟩ := bopen hown3; clear hown3 hb3)
        | (at_builtin; refine wpList_app1G (Value.int .u8) 23 5 (.int .u8 0) 1 Tryd.underlying23 infoU8 rfl (by decide) rfl _ _ rfl w3 (w.heap.size + 1) _ k3 (hd ++ outsT (os.take k) ++ itoaL x) 10 rfl HO3.out hs3 (by rw [HK3.out]; have := HL3.out; omega) rfl rfl ?_; intro v4 w4 hown4 hap4; have HB4 := Lib.hid (HB3.out.trans hap4.below); obtain ⟨a4, k4, c4, rfl, HK4, HO4⟩ := bopen hown4; clear hown4 hap4))
      go_roundw
      case rel => exact ⟨k + 1, by omega, by go_num, by rw [HS1.out, ← HK4.out]; exact HO4.out, HB4.out⟩
      case measure => simp [intOf]; omega
    · have hkl : l = k := by omega
      subst hkl
      obtain ⟨ab, kb, cb, rfl, HK, HO⟩ := bopen hown
      obtain ⟨⟨g0, g1, g2⟩, hqs⟩ := HBX.out wr hbr
      have HB2 := Lib.hid hbr
      clear hown hbr hlt hk HOS HOB HY g0 g2
      go_wp2_with fail
      clear g1
      have HL3 : Hid ((hd ++ outsT (os.take l)).length ≤ 20000) := by unfold Hid; rw [List.length_append]; have := HL99.out; have := HOL.out l (Nat.le_refl _); omega
      clear HL99 HOL
      generalize hd ++ outsT (os.take l) = hi3 at *
      go_loopw [5, 61] (fun bv iv wr => ∃ k : Nat, k ≤ m ∧ iv = .int .i64 (k : Int) ∧ Hid (wr.ownsRow (w.heap.size + 1) 5 1 bv (hi3 ++ gatesB i 0 (ps.take k)).length ((hi3 ++ gatesB i 0 (ps.take k)).map (Value.int .u8)) ∧ Below (w.heap.size + 1) w1 wr)) (fun _ iv _ => m - (intOf iv).toNat)
      case atStart => exact ⟨0, Nat.zero_le _, rfl, by rw [HG0.out, List.append_nil, ← HK.out]; exact HO.out, HB2.out⟩
      case round =>
        obtain ⟨k, hk, rfl, HH⟩ := hrel
        obtain ⟨hown, hbr⟩ := HH.out
        clear HH HO HB2 HK
        rename World => wr
        have hsr : w.heap.size + 1 ≤ wr.heap.size := by have := hbr.size; omega
        by_cases hlt : k < m
        · obtain ⟨ab, kb, cb, rfl, HK, HO⟩ := bopen hown
          obtain ⟨b, off, rfl, hcl⟩ := HX.out k hlt
          obtain ⟨y0, y1⟩ := hcl wr (HB0.out.trans (hbr.mono (by omega)))
          obtain ⟨p0, p1, p2⟩ := HPB.out k hlt
          have hgs := HGS.out k hlt
          have HLX : Hid ((hi3 ++ gatesB i 0 (ps.take k)).length ≤ 40000) := by unfold Hid; rw [List.length_append]; have := HL3.out; have := HGL.out k hk; omega
          generalize (ps.getD k (0, 0)).1 = x at *
          generalize (ps.getD k (0, 0)).2 = y at *
          obtain ⟨D1, hD1⟩ : ∃ D1 : Nat, 2 * ((i : Int) + (k : Int) + 1) - x = (D1 : Int) := ⟨_, (Int.toNat_of_nonneg (by omega)).symm⟩
          obtain ⟨D2, hD2⟩ : ∃ D2 : Nat, x - y = (D2 : Int) := ⟨_, (Int.toNat_of_nonneg (by omega)).symm⟩
          rw [hD1, hD2, Int.toNat_natCast, Int.toNat_natCast] at hgs
          have HS1 : Hid (hi3 ++ gatesB i 0 (ps.take (k + 1)) = hi3 ++ gatesB i 0 (ps.take k) ++ packL D1 ++ packL D2) := by unfold Hid; rw [hgs]; simp
          have hd1 : D1 < 1000000000 := by omega
          have hd2 : D2 < 1000000000 := by omega
          have HP1 := Lib.hid (packL_len9 hd1)
          have HP2 := Lib.hid (packL_len9 hd2)
          have HBR := Lib.hid hbr
          have hik : (i : Int) + (k : Int) ≤ 2000 := by omega
          have HLU := Lib.hid (fun W => glitU_any ((i : Int) + (k : Int) + 1) W (by omega) (by omega))
          have hx0 : 0 ≤ x := by omega
          have HK1 : Hid (Calls Tryd.prog 28 #[.slice ab kb cb, .int .u64 (D1 : Int)] (wr.alloc (.cells #[.int .i64 x, .int .i64 y] 48)) fun e w' => ∃ v', e = .returned v' ∧ w'.ownsRow (w.heap.size + 1) 5 1 v' (hi3 ++ gatesB i 0 (ps.take k) ++ packL D1).length ((hi3 ++ gatesB i 0 (ps.take k) ++ packL D1).map (Value.int .u8)) ∧ Below (w.heap.size + 1) wr w' ∧ (w'.cell? ⟨wr.heap.size, 0, none⟩ = some (.int .i64 x) ∧ w'.cell? ⟨wr.heap.size, 1, none⟩ = some (.int .i64 y) ∧ wr.heap.size < w'.heap.size)) := by
            have hal : Below wr.heap.size wr (wr.alloc (.cells #[.int .i64 x, .int .i64 y] 48)) := (Below.refl _ wr).alloc (Nat.le_refl _) _
            have hsa : (wr.alloc (.cells #[.int .i64 x, .int .i64 y] 48)).heap.size = wr.heap.size + 1 := by simp
            refine (pack_any (w.heap.size + 1) (.slice ab kb cb) kb (hi3 ++ gatesB i 0 (ps.take k)) D1 _ (own_keep HO.out hal) (by omega) hd1 (by rw [List.length_append]; have := HLX.out; have := HP1.out; omega)).mono ?_
            rintro e w' ⟨⟨v', h1, h2, h3⟩, h4⟩
            have hne : (Value.slice ab kb cb).ownBlock ≠ some wr.heap.size := fun e => by have := (HO.out.lt _ e).2; omega
            have hblk := h4 wr.heap.size (by rw [hsa]; omega) hne
            have hs3 := h3.size
            exact ⟨v', h1, h2, (hal.mono (by omega)).trans h3, (World.cell?_of_block (a := ⟨wr.heap.size, 0, none⟩) hblk).trans (by rw [World.cell?_alloc_at _ _ _ _ rfl]; rfl), (World.cell?_of_block (a := ⟨wr.heap.size, 1, none⟩) hblk).trans (by rw [World.cell?_alloc_at _ _ _ _ rfl]; rfl), by omega⟩
          clear hown hbr HTT HBX HX hcl HPB HGS HGL hgs
          generalize gatesB i 0 (ps.take k) = gk at *
          go_wp2_with (first
            | (go_at_call 27; refine (HLU.out _).mono ?_; rintro e2 w2 ⟨rfl, rfl⟩)
            | (go_at_call_of 28 (Value.int IntKind.u64 (D1 : Int)); refine HK1.out.mono ?_; rintro e3 w3 ⟨v3, rfl, hown3, hb3, z0, z1, z2⟩; have HB3 := Lib.hid (HBR.out.trans hb3); have hs3 : w.heap.size + 1 ≤ w3.heap.size := (by have := hb3.size; omega); have HL3 : Hid ((hi3 ++ gk ++ packL D1).length ≤ 50000) := (by have := HLX.out; have := HP1.out; unfold Hid; rw [List.length_append]; omega); obtain ⟨a3, k3, c3, rfl, HK3, HO3⟩ := bopen hown3; clear hown3 hb3)
            | (go_at_call_of 28 (Value.int IntKind.u64 (D2 : Int)); refine (pack_any (w.heap.size + 1) _ k3 (hi3 ++ gk ++ packL D1) D2 w3 HO3.out hs3 hd2 (by rw [List.length_append]; have := HL3.out; have := HP2.out; omega)).mono ?_; rintro e4 w4 ⟨⟨v4, rfl, hown4, hb4⟩, _⟩; have HB4 := Lib.hid (HB3.out.trans hb4); obtain ⟨a4, k4, c4, rfl, HK4, HO4⟩ := bopen hown4; clear hown4 hb4))
          go_roundw
          case rel => exact ⟨k + 1, by omega, by go_num, by rw [HS1.out, ← HK4.out]; exact HO4.out, HB4.out⟩
          case measure => simp [intOf]; omega
        · have hkm : m = k := by omega
          subst hkm
          obtain ⟨ab, kb, cb, rfl, HK, HO⟩ := bopen hown
          have HB2 := Lib.hid hbr
          clear hown hbr hlt hk HX
          go_wp2_with fail
          go_ret
          rw [HHE.out]
          refine ⟨_, rfl, ?_, HB0.out.trans (HB2.out.mono (by omega))⟩
          rw [← HK.out]
          exact own_base HO.out (by omega)
end Go.Proofs.YtfkodpglgeghlaaDoor

namespace Go.Proofs.YtfkodpglgeghlaaDoor
open Go.RowKit

theorem readG_nil : readG [] = badC (false, 0) := rfl
theorem text0B : strOfNums (textB 0 [] []) = ⟨#[97, 105, 103, 32, 48, 32, 48, 32, 48, 32, 48, 32, 48, 10]⟩ := by
  have : textB 0 [] [] = [97, 105, 103, 32, 48, 32, 48, 32, 48, 32, 48, 32, 48, 10] := by simp [textB, headB, outsT, gatesB, lineL, bodyL, itoaL_0]
  rw [this]
  rfl
theorem gby0_any (w : World) (ht : Tabs w) : Calls Tryd.prog 11 #[circV 0 (.slice none 0 0) (.slice none 0 0)] w fun e w' => ∃ v', e = .returned v' ∧ w'.ownsRow w.heap.size 5 1 v' (textB 0 [] []).length ((textB 0 [] []).map (Value.int .u8)) ∧ Below w.heap.size w w' :=
  gbyt_any 0 (.slice none 0 0) (.slice none 0 0) [] [] w (PRow.nil w) (Row.nil w) (by omega) (by simp) (by simp) (by intro j hj; simp at hj) (by intro o ho; cases ho) ht

set_option maxHeartbeats 1000000 in
theorem first12_any (A : Nat → Addr) (w : World) (hS : Sents w A) (ht : Tabs w) : Calls Tryd.prog 9 #[] w fun e w' => e = .returned (.bool true) ∧ Below w.heap.size w w' := by
  have HR := Lib.hid (greadA_any A (.slice none 0 0) [] w hS (RowG.nil _ _ _) Bts.nil (by simp))
  rw [readG_nil] at HR
  have HP := Lib.hid (fun W => placed_any 101 0 W (by omega))
  have HY := Lib.hid (fun ev W (h : ErrAs W ev 101 true 0) => see_yes ev 101 true 0 W h)
  have HSS := Lib.hid (fun W (hW : Below w.heap.size w W) => hS.keep hW)
  have HTB := Lib.hid (fun W (hW : Below w.heap.size w W) => gby0_any W (ht.keep hW))
  have HCV := Lib.hid (fun (W : World) (v : Value) (B : Nat) (h : W.ownsRow B 5 1 v (textB 0 [] []).length ((textB 0 [] []).map (Value.int .u8))) => conv_own h)
  rw [text0B] at HCV
  unfold ReadP badC at HR
  unfold circV at HTB
  unfold circV at HR
  clear hS ht
  generalize textB 0 [] [] = T at *
  go_enter Tryd.func9, Tryd.ntmps9
  go_wp2_with (first
    | (go_at_call 12; refine HR.out.mono ?_; rintro e w1 ⟨⟨u, v, ov, rfl, hU, hV, hO⟩, hb1⟩; have hs1 := hb1.size; have hE := hO.err (HSS.out _ hb1); obtain ⟨a9, c9, rfl, _⟩ := hU; obtain ⟨a8, c8, rfl, _⟩ := hV)
    | (go_at_call 18; refine (HP.out _).mono ?_; rintro e w2 ⟨rfl, hb2⟩)
    | (go_at_call 17; refine (HY.out _ _ ?_).mono ?_; rotate_left; rintro e w3 ⟨rfl, hb3⟩; have HW3 : Hid (Below w.heap.size w w3) := (by have hq : Below w1.heap.size w1 w2 := ((Below.refl _ w1).alloc (Nat.le_refl _) _).trans (hb2.mono (by simp)); exact hb1.trans ((hq.trans (hb3.mono hq.size)).mono hs1)))
    | (go_at_call 11; refine (HTB.out _ HW3.out).mono ?_; rintro e w4 ⟨v4, rfl, hown4, hb4⟩; have kc := HCV.out _ _ _ hown4; have HB4 := Lib.hid hb4; obtain ⟨a4, c4, rfl, _, _⟩ := own_shape hown4; clear hown4 hb4))
  · go_ret
    exact ⟨rfl, HW3.out.trans (HB4.out.mono HW3.out.size)⟩
  · exact hE.keep (((Below.refl _ w1).alloc (Nat.le_refl _) _).trans (hb2.mono (by simp)))

theorem lineL_bts (ns : List Int) : Bts (lineL ns) := fun x hx => by
  unfold lineL bodyL at hx
  rcases List.mem_append.1 hx with hx | hx
  · have := List.mem_of_mem_drop hx
    obtain ⟨n, _, hn⟩ := List.mem_flatMap.1 this
    rcases List.mem_cons.1 hn with rfl | hn
    · omega
    · exact (tok_itoa n).2 x hn
  · have e := List.mem_singleton.1 hx; subst e; omega
theorem gatesB_bts (i : Nat) : ∀ (ps : List (Int × Int)) (k : Nat), Bts (gatesB i k ps)
  | [], _ => by intro x hx; cases hx
  | y :: ps, k => by rw [gatesB]; exact (packL_bts _).append ((packL_bts _).append (gatesB_bts i ps (k + 1)))
theorem textB_bts (i : Nat) (ps : List (Int × Int)) (os : List Int) : Bts (textB i ps os) := by
  unfold textB headB
  refine Bts.append (Bts.append (Bts.append ?_ (lineL_bts _)) ?_) (gatesB_bts i ps 0)
  · intro x hx; simp at hx; omega
  · intro x hx
    unfold outsT at hx
    obtain ⟨j, _, hj⟩ := List.mem_flatMap.1 hx
    exact lineL_bts _ x hj
theorem textB_len {i : Nat} {ps : List (Int × Int)} {os : List Int} (h : RightC i ps os) (hi : i ≤ 40) (hp : ps.length ≤ 60) (ho : os.length ≤ 30) : (textB i ps os).length ≤ 3000 := by
  have h2 := outsT_len os (fun x hx => by have := h.2.2.2 x hx; omega)
  have h3 := gatesB_len i ps 0 (by omega) (fun j hj => by have := h.2.2.1 j hj; omega)
  have h4 := lineL_len [(i : Int) + (ps.length : Int), (i : Int), 0, (os.length : Int), (ps.length : Int)] (by intro n hn; simp at hn; omega)
  unfold textB headB
  simp only [List.length_append, List.length_cons, List.length_nil] at h4 ⊢
  omega
end Go.Proofs.YtfkodpglgeghlaaDoor
