/- Contract of aig.unpack. Conditions: the slice reads as bytes, and is not too long. · The reader of package aig in memory ('GR'); contracts of aig.at, aig.literal[int], of the reader's number. Conditions: the reader lies as 'GR' says; the errors lie as 'Sents' says. · Contracts of the reader's number and gate. Conditions: the reader lies as 'GR' says; the errors lie as 'Sents' says. · Contract of the reader's gate. Conditions: the reader lies as 'GR' says; the errors lie as 'Sents' says. · Contracts of aig.count, of the head's check. Conditions: the word is some bytes; the head's numbers lie as 'H5' says; the errors lie as 'Sents' says. · Contracts of the head's read, of the output's reader. Conditions: the words lie as 'WRow' says, each is some bytes; the errors lie as 'Sents' says. · Contract of the output's closure. Conditions: the words lie as 'WRow' says, each is some bytes; the errors lie as 'Sents' says. -/
import Derived.Test.YtfkodpglgeghlaaDoorGgM
import Derived.Laws.Bits64b
import Derived.Test.YtfkodpglgeghlaaDoorRdM
import Derived.Test.YtfkodpglgeghlaaDoorCrm
import Derived.BigQuiet
import Derived.Deep.DeepCutAuto
import Derived.Deep.RegionHeld3
import Derived.Test.YtfkodpglgeghlaaDoorGte
import Derived.Test.YtfkodpglgeghlaaDoorHdn
namespace Go.Proofs.YtfkodpglgeghlaaDoor
open Go.RowKit

def unpV : Option (Int × Nat) → Value
  | none => .tuple #[.int .u64 0, .int .i64 0, .bool false]
  | some (n, l) => .tuple #[.int .u64 n, .int .i64 l, .bool true]
theorem or_low (a z k : Nat) (ha : a < 128 ^ k) (hz : z < 128) (hk : k < 5) : bits BinOp.or IntKind.u64 (a : Int) (IntKind.u64.wrap ((z : Int) * 2 ^ (7 * k))) = ((a + z * 128 ^ k : Nat) : Int) := by
  have hp : (128 : Nat) ^ k = 2 ^ (7 * k) := by rw [Nat.pow_mul]
  have hb : 128 ^ k ≤ 128 ^ 4 := Nat.pow_le_pow_right (by decide) (by omega)
  have hm : z * 128 ^ k ≤ 127 * 128 ^ 4 := Nat.mul_le_mul (by omega) hb
  have hi : (z : Int) * 2 ^ (7 * k) = ((z * 128 ^ k : Nat) : Int) := by rw [hp]; push_cast; rfl
  have hw : IntKind.u64.wrap ((z : Int) * 2 ^ (7 * k)) = ((z * 128 ^ k : Nat) : Int) := by
    rw [hi]
    exact IntWalk.u64_in _ (by omega)
  rw [hw, bits_or_u64_nat a (z * 128 ^ k) (by omega) (by omega)]
  have := Nat.two_pow_add_eq_or_of_lt (i := 7 * k) (b := a) (by rw [← hp]; exact ha) z
  rw [← hp] at this
  rw [Nat.or_comm, Nat.mul_comm z, ← this, Nat.add_comm]

set_option maxRecDepth 4000 in
set_option maxHeartbeats 2000000 in
theorem unp_any (v : Value) (ys : List Int) (w : World) (hv : RowG (Value.int .u8) 0 w v ys) (hb : Bts ys) (hn : ys.length ≤ 4000000) :
    Calls Tryd.prog 83 #[v] w fun e w' => e = .returned (unpV (unpG ys)) ∧ w = w' := by
  obtain ⟨a, c, rfl, hxc, hcm, hx⟩ := hv
  unfold maxLen at hcm
  by_cases h0 : ys.length = 0
  · have hxe : ys = [] := List.eq_nil_of_length_eq_zero h0
    subst hxe
    clear hx hb hn h0
    go_enter Tryd.func83, Tryd.ntmps83
    go_wp2
    refine wp_loop_rounds 1 ?_
    rw [rounds_succ]
    go_wp2
    (try simp only [Exit.inBlock, Exit.then]); refine bodyPost_ret (results_tmp3 rfl _ _ _) rfl ?_
    exact ⟨rfl, rfl⟩
  · obtain ⟨b, off, rfl, hbl, hx⟩ := hx.resolve_left h0
    have HX := Lib.hid hx; clear hx
    have HB := Lib.hid (fun k => hb.at k); clear hb
    have HST : Hid (∀ (k : Nat) (acc : Int), k < ys.length → unpL k acc (ys.drop k) = if 5 ≤ k then none else if ys.getD k 0 < 128 then some (acc + ys.getD k 0 % 128 * 2 ^ (7 * k), k + 1) else unpL (k + 1) (acc + ys.getD k 0 % 128 * 2 ^ (7 * k)) (ys.drop (k + 1))) := fun k acc hk => by rw [drop_cons ys k hk, unpL]
    have HEN : Hid (∀ (k : Nat) (acc : Int), (k = ys.length ∨ k = 5) → unpL k acc (ys.drop k) = none) := fun k acc hk => by
      by_cases h : k < ys.length
      · rw [drop_cons ys k h, unpL, if_pos (by omega)]
      · rw [List.drop_eq_nil_of_le (by omega), unpL]
    have HF0 : Hid (unpL 0 ((0 : Nat) : Int) (ys.drop 0) = unpG ys) := rfl
    generalize unpG ys = F at *
    generalize ys.length = n at *
    have HL : Hid (∀ (k acc z : Nat) (y : Int), k < 5 → z < 128 → acc < 128 ^ k → y % 128 = (z : Int) → acc + z * 128 ^ k < 128 ^ (k + 1) ∧ (acc : Int) + y % 128 * 2 ^ (7 * k) = ((acc + z * 128 ^ k : Nat) : Int)) := fun k acc z y hk hz ha hy => by
      have hp : (128 : Nat) ^ k = 2 ^ (7 * k) := by rw [Nat.pow_mul]
      refine ⟨?_, by rw [hy, hp]; push_cast; rfl⟩
      have : z * 128 ^ k ≤ 127 * 128 ^ k := Nat.mul_le_mul (by omega) (Nat.le_refl _)
      rw [Nat.pow_succ]
      omega
    rcases (by omega : n < 5 ∨ n = 5 ∨ 5 < n) with h5 | h5 | h5
    · have h6 : (n : Int) < 5 := by omega
      go_enter Tryd.func83, Tryd.ntmps83
      go_wp2_with fail
      go_loop [5, 14] (fun nv i => ∃ (k acc : Nat), k ≤ n ∧ i = .int .i64 k ∧ nv = .int .u64 acc ∧ acc < 128 ^ k ∧ Hid (unpL k (acc : Int) (ys.drop k) = F)) (fun _ i => n - (intOf i).toNat)
      case atStart => exact ⟨0, 0, by omega, rfl, rfl, by decide, HF0.out⟩
      case round =>
        obtain ⟨k, acc, hk, rfl, rfl, hacc, HH⟩ := hrel
        by_cases hlt : k < n
        · have g1 : w.cell? ⟨b, off + k, none⟩ = some (.int .u8 (ys.getD k 0)) := HX.out k (by omega)
          obtain ⟨z0, z1⟩ := HB.out k
          have hs := HST.out k acc (by omega)
          rw [if_neg (by omega), HH.out] at hs
          generalize ys.getD k 0 = y at *
          obtain ⟨z, hz, hz2⟩ : ∃ z : Nat, y % 128 = (z : Int) ∧ z < 128 := ⟨(y % 128).toNat, by omega, by omega⟩
          have hor := or_low acc z k hacc hz2 (by omega)
          obtain ⟨hl1, hl2⟩ := HL.out k acc z y (by omega) hz2 hacc hz
          have HLL := Lib.hid hl1; clear hl1
          rw [hl2] at hs; clear hl2
          generalize acc + z * 128 ^ k = acc2 at *
          by_cases hy : y < 128
          · rw [if_pos hy] at hs
            have HS := Lib.hid hs; clear hs
            clear HX HST HEN HH HL
            go_wp2_with fail
            (try simp only [Exit.inBlock, Exit.then]); refine bodyPost_ret (results_tmp3 rfl _ _ _) rfl ?_
            exact ⟨by rw [HS.out]; rfl, rfl⟩
          · rw [if_neg hy] at hs
            have HS := Lib.hid hs; clear hs
            clear HX HST HEN HH HL
            go_wp2_with fail
            go_round
            case rel => exact ⟨k + 1, acc2, by omega, by go_num, rfl, HLL.out, HS.out.symm⟩
            case measure => simp [intOf]; omega
        · have hkm : k = n := by omega
          have HE : Hid (none = F) := by unfold Hid; rw [← HH.out]; exact (HEN.out k acc (by omega)).symm
          clear HX HST HEN HH HL HF0 hacc
          subst hkm
          go_wp2_with fail
          (try simp only [Exit.inBlock, Exit.then]); refine bodyPost_ret (results_tmp3 rfl _ _ _) rfl ?_
          exact ⟨by rw [← HE.out]; rfl, rfl⟩
    · subst h5
      go_enter Tryd.func83, Tryd.ntmps83
      go_wp2_with fail
      go_loop [5, 14] (fun nv i => ∃ (k acc : Nat), k ≤ 5 ∧ i = .int .i64 k ∧ nv = .int .u64 acc ∧ acc < 128 ^ k ∧ Hid (unpL k (acc : Int) (ys.drop k) = F)) (fun _ i => 5 - (intOf i).toNat)
      case atStart => exact ⟨0, 0, by omega, rfl, rfl, by decide, HF0.out⟩
      case round =>
        obtain ⟨k, acc, hk, rfl, rfl, hacc, HH⟩ := hrel
        by_cases hlt : k < 5
        · have g1 : w.cell? ⟨b, off + k, none⟩ = some (.int .u8 (ys.getD k 0)) := HX.out k (by omega)
          obtain ⟨z0, z1⟩ := HB.out k
          have hs := HST.out k acc (by omega)
          rw [if_neg (by omega), HH.out] at hs
          generalize ys.getD k 0 = y at *
          obtain ⟨z, hz, hz2⟩ : ∃ z : Nat, y % 128 = (z : Int) ∧ z < 128 := ⟨(y % 128).toNat, by omega, by omega⟩
          have hor := or_low acc z k hacc hz2 (by omega)
          obtain ⟨hl1, hl2⟩ := HL.out k acc z y (by omega) hz2 hacc hz
          have HLL := Lib.hid hl1; clear hl1
          rw [hl2] at hs; clear hl2
          generalize acc + z * 128 ^ k = acc2 at *
          by_cases hy : y < 128
          · rw [if_pos hy] at hs
            have HS := Lib.hid hs; clear hs
            clear HX HST HEN HH HL
            go_wp2_with fail
            (try simp only [Exit.inBlock, Exit.then]); refine bodyPost_ret (results_tmp3 rfl _ _ _) rfl ?_
            exact ⟨by rw [HS.out]; rfl, rfl⟩
          · rw [if_neg hy] at hs
            have HS := Lib.hid hs; clear hs
            clear HX HST HEN HH HL
            go_wp2_with fail
            go_round
            case rel => exact ⟨k + 1, acc2, by omega, by go_num, rfl, HLL.out, HS.out.symm⟩
            case measure => simp [intOf]; omega
        · have hkm : k = 5 := by omega
          have HE : Hid (none = F) := by unfold Hid; rw [← HH.out]; exact (HEN.out k acc (by omega)).symm
          clear HX HST HEN HH HL HF0 hacc
          subst hkm
          go_wp2_with fail
          (try simp only [Exit.inBlock, Exit.then]); refine bodyPost_ret (results_tmp3 rfl _ _ _) rfl ?_
          exact ⟨by rw [← HE.out]; rfl, rfl⟩
    · have h6 : (5 : Int) < (n : Int) := by omega
      go_enter Tryd.func83, Tryd.ntmps83
      go_wp2_with fail
      go_loop [5, 14] (fun nv i => ∃ (k acc : Nat), k ≤ 5 ∧ i = .int .i64 k ∧ nv = .int .u64 acc ∧ acc < 128 ^ k ∧ Hid (unpL k (acc : Int) (ys.drop k) = F)) (fun _ i => 5 - (intOf i).toNat)
      case atStart => exact ⟨0, 0, by omega, rfl, rfl, by decide, HF0.out⟩
      case round =>
        obtain ⟨k, acc, hk, rfl, rfl, hacc, HH⟩ := hrel
        by_cases hlt : k < 5
        · have g1 : w.cell? ⟨b, off + k, none⟩ = some (.int .u8 (ys.getD k 0)) := HX.out k (by omega)
          obtain ⟨z0, z1⟩ := HB.out k
          have hs := HST.out k acc (by omega)
          rw [if_neg (by omega), HH.out] at hs
          generalize ys.getD k 0 = y at *
          obtain ⟨z, hz, hz2⟩ : ∃ z : Nat, y % 128 = (z : Int) ∧ z < 128 := ⟨(y % 128).toNat, by omega, by omega⟩
          have hor := or_low acc z k hacc hz2 (by omega)
          obtain ⟨hl1, hl2⟩ := HL.out k acc z y (by omega) hz2 hacc hz
          have HLL := Lib.hid hl1; clear hl1
          rw [hl2] at hs; clear hl2
          generalize acc + z * 128 ^ k = acc2 at *
          by_cases hy : y < 128
          · rw [if_pos hy] at hs
            have HS := Lib.hid hs; clear hs
            clear HX HST HEN HH HL
            go_wp2_with fail
            (try simp only [Exit.inBlock, Exit.then]); refine bodyPost_ret (results_tmp3 rfl _ _ _) rfl ?_
            exact ⟨by rw [HS.out]; rfl, rfl⟩
          · rw [if_neg hy] at hs
            have HS := Lib.hid hs; clear hs
            clear HX HST HEN HH HL
            go_wp2_with fail
            go_round
            case rel => exact ⟨k + 1, acc2, by omega, by go_num, rfl, HLL.out, HS.out.symm⟩
            case measure => simp [intOf]; omega
        · have hkm : k = 5 := by omega
          have HE : Hid (none = F) := by unfold Hid; rw [← HH.out]; exact (HEN.out k acc (by omega)).symm
          clear HX HST HEN HH HL HF0 hacc
          subst hkm
          go_wp2_with fail
          (try simp only [Exit.inBlock, Exit.then]); refine bodyPost_ret (results_tmp3 rfl _ _ _) rfl ?_
          exact ⟨by rw [← HE.out]; rfl, rfl⟩
end Go.Proofs.YtfkodpglgeghlaaDoor

namespace Go.Proofs.YtfkodpglgeghlaaDoor
open Go.RowKit

/-- The reader at block p: the text (in a block below B), how far it is read. -/
def GR (w : World) (B p : Nat) (xs : List Int) (k : Nat) : Prop :=
  (∃ a c, w.cell? ⟨p, 0, none⟩ = some (.slice a xs.length c) ∧ xs.length ≤ c ∧ c ≤ maxLen ∧ (xs.length = 0 ∨ ∃ b off, a = some ⟨b, off, none⟩ ∧ b < B ∧ ∀ i, i < xs.length → w.cell? ⟨b, off + i, none⟩ = some (.int .u8 (xs.getD i 0)))) ∧
    w.cell? ⟨p, 1, none⟩ = some (.int .i64 k) ∧ (∀ o, w.frozen? ⟨p, o, none⟩ = false) ∧ p < w.heap.size ∧ B ≤ p
theorem GR.keep {w w' : World} {B p k : Nat} {xs : List Int} {S : List Nat} (h : GR w B p xs k) (hc : Chg S w w') (hp : p ∉ S) (hS : ∀ i ∈ S, B ≤ i) : GR w' B p xs k := by
  obtain ⟨⟨a, c, h1, h2, h3, h4⟩, h5, h6, h7, h8⟩ := h
  refine ⟨⟨a, c, (hc.cell h7 hp).trans h1, h2, h3, ?_⟩, (hc.cell h7 hp).trans h5, fun o => (hc.frz h7 hp).trans (h6 o), Nat.lt_of_lt_of_le h7 hc.size, h8⟩
  rcases h4 with h4 | ⟨b, off, e1, e2, h4⟩
  · exact .inl h4
  · exact .inr ⟨b, off, e1, e2, fun i hi => (hc.cell (by omega) (fun hm => by have := hS b hm; omega)).trans (h4 i hi)⟩
theorem GR.chg {w w' : World} {B p k : Nat} {xs : List Int} (h : GR w B p xs k) (hb : Below w.heap.size w w') : GR w' B p xs k := h.keep (S := []) (Chg.of_below hb) (by simp) (by simp)
theorem GR.low {a b : World} {B B' p k : Nat} {xs : List Int} (h : GR a B p xs k) (hb : Below B' a b) (hp : p < B') : GR b B p xs k := h.keep (chg_up hb) (up_not hp) (fun i hi => by
  obtain ⟨x, _, rfl⟩ := List.mem_map.1 hi
  have := h.2.2.2.2
  omega)
theorem GR.set {w : World} {B p k q o : Nat} {xs : List Int} {v : Value} (h : GR w B p xs k) (h1 : q ≠ p) (h2 : B ≤ q) : GR (w.setCell ⟨q, o, none⟩ v) B p xs k :=
  h.keep (S := [q]) ((Chg.refl _ _).setCell (.inl (by simp)) _) (by simp; omega) (by simp; omega)
theorem GR.move {w : World} {B p k k' : Nat} {xs : List Int} (h : GR w B p xs k) : GR (w.setCell ⟨p, 1, none⟩ (.int .i64 k')) B p xs k' := by
  obtain ⟨⟨a, c, h1, h2, h3, h4⟩, h5, h6, h7, h8⟩ := h
  refine ⟨⟨a, c, (set_off (.inr (by decide))).trans h1, h2, h3, ?_⟩, set_at h5, fun o => (World.frozen?_setCell _ _ _ _).trans (h6 o), by simpa using h7, h8⟩
  rcases h4 with h4 | ⟨b, off, e1, e2, h4⟩
  · exact .inl h4
  · exact .inr ⟨b, off, e1, e2, fun i hi => (set_off (.inl (by omega))).trans (h4 i hi)⟩
theorem GR.row {w : World} {B p k : Nat} {xs : List Int} (h : GR w B p xs k) : ∃ a c, w.cell? ⟨p, 0, none⟩ = some (.slice a xs.length c) ∧ RowG (Value.int .u8) 0 w (.slice a xs.length c) xs ∧ xs.length ≤ c ∧ c ≤ maxLen := by
  obtain ⟨⟨a, c, h1, h2, h3, h4⟩, h5, h6, h7, h8⟩ := h
  refine ⟨a, c, h1, ⟨a, c, rfl, h2, h3, ?_⟩, h2, h3⟩
  rcases h4 with h4 | ⟨b, off, e1, e2, h4⟩
  · exact .inl h4
  · exact .inr ⟨b, off, e1, by omega, h4⟩
/-- The rest of a row. -/
theorem rowG_drop {w : World} {b off n c : Nat} {xs : List Int} (h : RowG (Value.int .u8) 0 w (.slice (some ⟨b, off, none⟩) n c) xs) (k : Nat) (hk : k < xs.length) : RowG (Value.int .u8) 0 w (.slice (some ⟨b, off + k, none⟩) (n - k) (c - k)) (xs.drop k) := by
  obtain ⟨a', c', e, h1, h2, h3⟩ := h
  injection e with e1 e2 e3
  subst e2; subst e3
  obtain ⟨b', off', e4, h4, h5⟩ := h3.resolve_left (by omega)
  rw [← e1] at e4
  injection e4 with e4
  injection e4 with e5 e6 _
  subst e5; subst e6
  refine ⟨_, _, by rw [List.length_drop], by rw [List.length_drop]; omega, by omega, .inr ⟨b, off + k, rfl, h4, fun i hi => ?_⟩⟩
  rw [Nat.add_assoc, getD_dropI]
  exact h5 (k + i) (by rw [List.length_drop] at hi; omega)

set_option maxHeartbeats 1000000 in
theorem gat_any (A : Nat → Addr) (k : Int) (i : Nat) (w : World) : Calls Tryd.prog 29 #[.int .i64 k, .iface 135 (.pointer (some (A i)))] w fun e w' => (∃ ev, e = .returned ev ∧ AtB A w.heap.size w' ev k i) ∧ Below w.heap.size w w' := by
  go_enter Tryd.func29, Tryd.ntmps29
  go_wp2
  go_ret
  refine ⟨⟨_, rfl, w.heap.size, Nat.le_refl _, rfl, ?_, ?_⟩, (Below.refl _ w).alloc (Nat.le_refl _) _⟩
  · rw [World.cell?_alloc_at _ _ _ _ (by simp)]; rfl
  · rw [World.cell?_alloc_at _ _ _ _ (by simp)]; rfl

set_option maxHeartbeats 400000 in
theorem glit_any (n : Int) (w : World) (h0 : -1000000000000 ≤ n) (h1 : n ≤ 1000000000000) : Calls Tryd.prog 47 #[.int .i64 n] w fun e w' => e = .returned (.int .i64 (2 * n)) ∧ w = w' := by
  go_enter Tryd.func47, Tryd.ntmps47
  go_wp2
  go_ret
  exact ⟨rfl, rfl⟩

def NumGP (A : Nat → Addr) (w : World) (B p : Nat) (xs : List Int) (R : Rg Int) (r : Ending) (w' : World) : Prop :=
  match R with
  | .bad k => ∃ ev, r = .returned (.tuple #[.int .i64 0, ev]) ∧ AtB A w.heap.size w' ev (k : Int) 0 ∧ Chg [p] w w'
  | .got n k => r = .returned (.tuple #[.int .i64 n, .nilIface]) ∧ GR w' B p xs k ∧ Chg [p] w w'
theorem unpL_bd : ∀ (xs : List Int) (i : Nat) (n : Int) (r : Int × Nat), unpL i n xs = some r → 0 ≤ n → n < 128 ^ i → i ≤ 5 → 0 ≤ r.1 ∧ r.1 < 128 ^ 5 ∧ r.2 ≤ 5 ∧ r.2 ≤ i + xs.length ∧ i < r.2
  | [], i, n, r, h, _, _, _ => by simp [unpL] at h
  | x :: xs, i, n, r, h, h0, h1, h5 => by
    unfold unpL at h
    split at h
    · cases h
    · rename_i hi
      have hp : (2 : Int) ^ (7 * i) = 128 ^ i := by rw [Int.pow_mul]; rfl
      have hb1 : 0 ≤ x % 128 ∧ x % 128 ≤ 127 := by omega
      have hq : (0 : Int) < 128 ^ i := Int.pow_pos (by decide)
      have hm : x % 128 * 128 ^ i ≤ 127 * 128 ^ i := Int.mul_le_mul_of_nonneg_right hb1.2 (Int.le_of_lt hq)
      have hm0 : 0 ≤ x % 128 * 128 ^ i := Int.mul_nonneg hb1.1 (Int.le_of_lt hq)
      have hn : n + x % 128 * 2 ^ (7 * i) < 128 ^ (i + 1) := by rw [hp, Int.pow_succ]; omega
      split at h
      · injection h with h
        subst h
        have : (128 : Int) ^ (i + 1) ≤ 128 ^ 5 := by
          have := Nat.pow_le_pow_right (n := 128) (by decide) (show i + 1 ≤ 5 by omega)
          exact_mod_cast this
        refine ⟨by dsimp only; rw [hp]; omega, by dsimp only; omega, by dsimp only; omega, by simp only [List.length_cons]; omega, by dsimp only; omega⟩
      · have ih := unpL_bd xs (i + 1) _ r h (by rw [hp]; omega) hn (by omega)
        simp only [List.length_cons]
        omega
end Go.Proofs.YtfkodpglgeghlaaDoor

namespace Go.Proofs.YtfkodpglgeghlaaDoor
open Go.RowKit

/-- aig.at from a world that has only drawn. -/
theorem gat_from (A : Nat → Addr) (k : Nat) (w : World) (q : Nat) : Calls Tryd.prog 29 #[.int .i64 (k : Int), .iface 135 (.pointer (some (A 0)))] (w.drewN q) fun e w' => ∃ ev, e = .returned ev ∧ AtB A w.heap.size w' ev (k : Int) 0 ∧ Below w.heap.size w w' :=
  (gat_any A (k : Int) 0 (w.drewN q)).mono fun _ _ ⟨⟨ev, h1, h2⟩, h3⟩ => ⟨ev, h1, h2.mono (below_drewN (Below.refl w.heap.size w) q).size, (below_drewN (Below.refl _ _) q).trans (h3.mono (below_drewN (Below.refl w.heap.size w) q).size)⟩
theorem numG_end {xs : List Int} {least most : Int} {k : Nat} (h : xs.length ≤ k) : numG xs least most k = .bad k := by
  unfold numG unpG
  rw [List.drop_eq_nil_of_le h]; rfl

set_option maxHeartbeats 4000000 in
theorem gnum_end (A : Nat → Addr) (B p : Nat) (xs : List Int) (k : Nat) (least most : Int) (w : World) (h : GR w B p xs k) (hS : SentsP A p w) (hn : xs.length ≤ 1000000) (hk : k = xs.length) :
    Calls Tryd.prog 68 #[.pointer (some ⟨p, 0, none⟩), .int .i64 least, .int .i64 most] w (NumGP A w B p xs (.bad k)) := by
  obtain ⟨a, c, c0, hrow, hxc, hcm⟩ := h.row
  unfold maxLen at hcm
  have c1 := h.2.1
  have hpl := h.2.2.2.1
  have HT := Lib.hid (gat_from A k w)
  have he := hS.here.c0
  have hel : 1 < w.heap.size := World.block_lt_of_cell? w _ he
  have hz0 : 0 < w.heap.size := by omega
  have HUN : Hid (∀ a' c' W, c' ≤ 2 ^ 63 - 1 → Calls Tryd.prog 83 #[.slice a' 0 c'] W fun e w' => e = .returned (.tuple #[.int .u64 0, .int .i64 0, .bool false]) ∧ W = w') := fun a' c' W hc => unp_any (.slice a' 0 c') [] W ⟨a', c', rfl, Nat.zero_le _, hc, .inl rfl⟩ (by intro x hx; cases hx) (by simp)
  clear hrow h hS
  generalize xs.length = n at *
  subst hk
  have HEND : Hid (∀ ev w3, AtB A w.heap.size w3 ev (k : Int) 0 → Below w.heap.size w w3 → NumGP A w B p xs (.bad k) (.returned (.tuple #[.int .i64 0, ev])) w3) := fun ev w3 h1 h2 => ⟨ev, rfl, h1, Chg.of_below h2⟩
  by_cases hc : c = k
  · subst hc
    cases a with
    | none =>
      go_enter Tryd.func68, Tryd.ntmps68
      go_wp2_with fail
      go_quiet ((go_at_call 83; refine (HUN.out _ _ _ (by omega)).mono ?_; rintro e1 w1 ⟨rfl, rfl⟩; exact ⟨rfl, _, rfl⟩))
      go_wp2_with fail
      go_region_with (go_at_call 29; refine (HT.out _).mono ?_; rintro e1 w1 ⟨ev, rfl, hat, hb⟩)
      all_goals
        go_wp2_with fail
        go_ret2
        exact HEND.out _ _ hat hb
    | some a =>
      go_enter Tryd.func68, Tryd.ntmps68
      go_wp2_with fail
      go_quiet ((go_at_call 83; refine (HUN.out _ _ _ (by omega)).mono ?_; rintro e1 w1 ⟨rfl, rfl⟩; exact ⟨rfl, _, rfl⟩))
      go_wp2_with fail
      go_region_with (go_at_call 29; refine (HT.out _).mono ?_; rintro e1 w1 ⟨ev, rfl, hat, hb⟩)
      all_goals
        go_wp2_with fail
        go_ret2
        exact HEND.out _ _ hat hb
  · have hck : k < c := by omega
    cases a with
    | none =>
      go_enter Tryd.func68, Tryd.ntmps68
      go_wp2_with fail
      go_quiet ((go_at_call 83; refine (HUN.out _ _ _ (by omega)).mono ?_; rintro e1 w1 ⟨rfl, rfl⟩; exact ⟨rfl, _, rfl⟩))
      go_wp2_with fail
      go_region_with (go_at_call 29; refine (HT.out _).mono ?_; rintro e1 w1 ⟨ev, rfl, hat, hb⟩)
      all_goals
        go_wp2_with fail
        go_ret2
        exact HEND.out _ _ hat hb
    | some a =>
      go_enter Tryd.func68, Tryd.ntmps68
      go_wp2_with fail
      go_quiet ((go_at_call 83; refine (HUN.out _ _ _ (by omega)).mono ?_; rintro e1 w1 ⟨rfl, rfl⟩; exact ⟨rfl, _, rfl⟩))
      go_wp2_with fail
      go_region_with (go_at_call 29; refine (HT.out _).mono ?_; rintro e1 w1 ⟨ev, rfl, hat, hb⟩)
      all_goals
        go_wp2_with fail
        go_ret2
        exact HEND.out _ _ hat hb

set_option maxHeartbeats 4000000 in
theorem gnum_in (A : Nat → Addr) (B p : Nat) (xs : List Int) (k : Nat) (least most : Int) (w : World) (h : GR w B p xs k) (hS : SentsP A p w) (hb : Bts xs) (hn : xs.length ≤ 1000000) (hk : k < xs.length) (h0 : 0 ≤ least) (h1 : least ≤ 1000000000) (h2 : 0 ≤ most) (h3 : most ≤ 1000000000) :
    Calls Tryd.prog 68 #[.pointer (some ⟨p, 0, none⟩), .int .i64 least, .int .i64 most] w (NumGP A w B p xs (numG xs least most k)) := by
  obtain ⟨a, c, c0, hrow, hxc, hcm⟩ := h.row
  unfold maxLen at hcm
  have c1 := h.2.1
  have hf := h.2.2.1
  have hpl := h.2.2.2.1
  have HT := Lib.hid (gat_from A k w)
  have he := hS.here.c0
  have hel : 1 < w.heap.size := World.block_lt_of_cell? w _ he
  have hz0 : 0 < w.heap.size := by omega
  obtain ⟨b, off, rfl⟩ : ∃ b off, a = some ⟨b, off, none⟩ := by
    obtain ⟨a', c', e, _, _, h3⟩ := hrow
    injection e with e1 _ _
    obtain ⟨b, off, e2, _⟩ := h3.resolve_left (by omega)
    exact ⟨b, off, by rw [e1, e2]⟩
  have HUN : Hid (∀ q, Calls Tryd.prog 83 #[.slice (some ⟨b, off + k, none⟩) (xs.length - k) (c - k)] (w.drewN q) fun e w' => e = .returned (unpV (unpG (xs.drop k))) ∧ w.drewN q = w') := fun q => unp_any _ (xs.drop k) (w.drewN q) ((rowG_drop hrow k hk).keep (below_drewN (Below.refl _ _) q)) (hb.drop k) (by rw [List.length_drop]; omega)
  have hR : numG xs least most k = match unpG (xs.drop k) with
    | none => .bad k
    | some (n, l) => if n < least ∨ most < n then .bad k else .got n (k + l) := rfl
  have HBD := Lib.hid (fun r => unpL_bd (xs.drop k) 0 0 r)
  have HEND : Hid (∀ ev w3, AtB A w.heap.size w3 ev (k : Int) 0 → Below w.heap.size w w3 → NumGP A w B p xs (.bad k) (.returned (.tuple #[.int .i64 0, ev])) w3) := fun ev w3 h1 h2 => ⟨ev, rfl, h1, Chg.of_below h2⟩
  have HMV : Hid (∀ q (k' : Nat), GR ((w.drewN q).setCell ⟨p, 1, none⟩ (.int .i64 k')) B p xs k' ∧ Chg [p] w ((w.drewN q).setCell ⟨p, 1, none⟩ (.int .i64 k'))) := fun q k' => ⟨(h.chg (below_drewN (Below.refl _ _) q)).move, (Chg.of_below (below_drewN (Below.refl _ _) q)).setCell (.inl (by simp)) _⟩
  have hck : ¬ c = k := by omega
  have hlen := List.length_drop (i := k) (l := xs)
  clear hrow h hS hb
  generalize xs.length = n at *
  cases hu : unpG (xs.drop k) with
  | none =>
    rw [hu] at HUN hR
    rw [hR]
    clear hR hu HBD hlen
    unfold unpV at HUN
    go_enter Tryd.func68, Tryd.ntmps68
    go_wp2_with fail
    go_quiet ((go_at_call 83; refine (HUN.out _).mono ?_; rintro e1 w1 ⟨rfl, rfl⟩; exact ⟨rfl, _, rfl⟩))
    go_wp2_with fail
    go_region_with (go_at_call 29; refine (HT.out _).mono ?_; rintro e1 w1 ⟨ev, rfl, hat, hb⟩)
    all_goals
      go_wp2_with fail
      go_ret2
      exact HEND.out _ _ hat hb
  | some r =>
    obtain ⟨m, l⟩ := r
    have hbd := HBD.out _ hu (Int.le_refl _) (by decide) (by decide)
    rw [hu] at HUN hR
    rw [hR]
    simp only at hbd
    obtain ⟨b0, b1, b2, b3, b4⟩ := hbd
    have b5 : m < 34359738368 := b1
    clear hR hu HBD b1
    unfold unpV at HUN
    dsimp only
    by_cases d1 : m < least
    · rw [if_pos (.inl d1)]
      go_enter Tryd.func68, Tryd.ntmps68
      go_wp2_with fail
      go_quiet ((go_at_call 83; refine (HUN.out _).mono ?_; rintro e1 w1 ⟨rfl, rfl⟩; exact ⟨rfl, _, rfl⟩))
      go_wp2_with fail
      go_region_with (go_at_call 29; refine (HT.out _).mono ?_; rintro e1 w1 ⟨ev, rfl, hat, hb⟩)
      all_goals
        go_wp2_with fail
        go_ret2
        exact HEND.out _ _ hat hb
    · by_cases d2 : most < m
      · rw [if_pos (.inr d2)]
        go_enter Tryd.func68, Tryd.ntmps68
        go_wp2_with fail
        go_quiet ((go_at_call 83; refine (HUN.out _).mono ?_; rintro e1 w1 ⟨rfl, rfl⟩; exact ⟨rfl, _, rfl⟩))
        go_wp2_with fail
        go_region_with (go_at_call 29; refine (HT.out _).mono ?_; rintro e1 w1 ⟨ev, rfl, hat, hb⟩)
        all_goals
          go_wp2_with fail
          go_ret2
          exact HEND.out _ _ hat hb
      · rw [if_neg (by omega)]
        have b6 : (k : Int) + (l : Int) ≤ 1000000 := by omega
        go_enter Tryd.func68, Tryd.ntmps68
        go_wp2_with fail
        go_quiet ((go_at_call 83; refine (HUN.out _).mono ?_; rintro e1 w1 ⟨rfl, rfl⟩; exact ⟨rfl, _, rfl⟩))
        go_wp2_with fail
        go_ret2
        have hmv := HMV.out nq (k + l)
        rw [Int.natCast_add] at hmv
        exact ⟨rfl, hmv.1, hmv.2⟩
theorem gnum_any (A : Nat → Addr) (B p : Nat) (xs : List Int) (k : Nat) (least most : Int) (w : World) (h : GR w B p xs k) (hS : SentsP A p w) (hb : Bts xs) (hn : xs.length ≤ 1000000) (hk : k ≤ xs.length) (h0 : 0 ≤ least) (h1 : least ≤ 1000000000) (h2 : 0 ≤ most) (h3 : most ≤ 1000000000) :
    Calls Tryd.prog 68 #[.pointer (some ⟨p, 0, none⟩), .int .i64 least, .int .i64 most] w (NumGP A w B p xs (numG xs least most k)) := by
  by_cases e : k = xs.length
  · rw [numG_end (by omega)]; exact gnum_end A B p xs k least most w h hS hn e
  · exact gnum_in A B p xs k least most w h hS hb hn (by omega) h0 h1 h2 h3
end Go.Proofs.YtfkodpglgeghlaaDoor

namespace Go.Proofs.YtfkodpglgeghlaaDoor
open Go.RowKit

theorem numG_got {xs : List Int} {least most n : Int} {k k' : Nat} (h : numG xs least most k = .got n k') (hk : k ≤ xs.length) : least ≤ n ∧ n ≤ most ∧ k' ≤ xs.length := by
  unfold numG at h
  cases hu : unpG (xs.drop k) with
  | none => rw [hu] at h; cases h
  | some r =>
    rw [hu] at h
    dsimp only at h
    split at h
    · cases h
    · injection h with h1 h2
      have := unpL_bd (xs.drop k) 0 0 r hu (Int.le_refl _) (by decide) (by decide)
      rw [List.length_drop] at this
      omega
theorem gateG_got {xs : List Int} {own : Int} {g : Int × Int} {k k' : Nat} (h : gateG xs own k = .got g k') (hk : k ≤ xs.length) : k' ≤ xs.length := by
  unfold gateG at h
  cases h1 : numG xs 1 own k with
  | bad q => rw [h1] at h; cases h
  | got x p1 =>
    rw [h1] at h
    dsimp only at h
    have hg := numG_got h1 hk
    cases h2 : numG xs 0 (own - x) p1 with
    | bad q => rw [h2] at h; cases h
    | got y p2 =>
      rw [h2] at h
      injection h with h3 h4
      subst h4
      exact (numG_got h2 hg.2.2).2.2
def GateGP (A : Nat → Addr) (w : World) (B p : Nat) (xs : List Int) (R : Rg (Int × Int)) (r : Ending) (w' : World) : Prop :=
  match R with
  | .bad k => ∃ ev, r = .returned (.tuple #[cntV 0 0, ev]) ∧ AtB A w.heap.size w' ev (k : Int) 0 ∧ Chg [p] w w'
  | .got g k => r = .returned (.tuple #[cntV g.1 g.2, .nilIface]) ∧ GR w' B p xs k ∧ Chg [p] w w'

set_option maxHeartbeats 4000000 in
theorem ggate_any (A : Nat → Addr) (B p : Nat) (xs : List Int) (k : Nat) (own : Int) (w : World) (h : GR w B p xs k) (hS : SentsP A p w) (hb : Bts xs) (hn : xs.length ≤ 1000000) (hk : k ≤ xs.length) (h0 : 0 ≤ own) (h1 : own ≤ 1000000) :
    Calls Tryd.prog 49 #[.pointer (some ⟨p, 0, none⟩), .int .i64 own] w (GateGP A w B p xs (gateG xs own k)) := by
  have hpl : p < w.heap.size := h.2.2.2.1
  have hBp : B ≤ p := h.2.2.2.2
  have HB0 := Lib.hid ((Below.refl w.heap.size w).alloc (Nat.le_refl _) (.cells #[.int .i64 0, .int .i64 0] 48))
  have HJ := Lib.hid (gnum_any A B p xs k 1 own _ (h.chg HB0.out) (hS.chg (Chg.of_below HB0.out)) hb hn hk (by omega) (by omega) h0 (by omega))
  have HQ := Lib.hid (fun W hW => res2 (W := W) (u := .int .i64 0) (v := .int .i64 0) (T := 48) hpl hW)
  have HNB := Lib.hid (fun most k' W (hr : GR W B p xs k') (hW : Chg [p] w W) (hk : k' ≤ xs.length) (h2 : 0 ≤ most) (h3 : most ≤ 1000000000) => gnum_any A B p xs k' 0 most W hr (hS.chg hW) hb hn hk (Int.le_refl _) (by omega) h2 h3)
  clear h hS
  unfold gateG
  cases hj : numG xs 1 own k with
  | bad k1 =>
    rw [hj] at HJ
    simp only
    go_enter Tryd.func49, Tryd.ntmps49
    go_wp2_with fail
    refine HJ.out.mono ?_
    rintro e1 w1 ⟨ev, rfl, hat, hch⟩
    obtain ⟨q0, q1, qf, hs, hcw⟩ := HQ.out w1 hch
    have HAT := Lib.hid hat
    obtain ⟨b, hB, rfl, k0, k1⟩ := hat
    have hfin := fin2 (W := w1) (q := w.heap.size) q0 q1
    clear k0 k1
    go_wp2_with fail
    exact bodyPost_ret (v := .tuple #[cntV 0 0, .iface 73 (.pointer (some ⟨b, 0, none⟩))]) (by simp [results, Tryd.results49, go_sem, cntV, hfin]) rfl ⟨_, rfl, ((HAT.out.set _ _ _ (by simp)).set _ _ _ (by simp)).mono (by simp), (hcw.setCell (.inr (Nat.le_refl _)) _).setCell (.inr (Nat.le_refl _)) _⟩
  | got x p1 =>
    rw [hj] at HJ
    obtain ⟨hx0, hx1, hp1⟩ := numG_got hj hk
    clear hj
    simp only
    have HN2 := Lib.hid (fun W hr hW => HNB.out (own - x) p1 W hr hW hp1 (by omega) (by omega))
    cases hb2 : numG xs 0 (own - x) p1 with
    | bad k2 =>
      rw [hb2] at HN2
      simp only
      go_enter Tryd.func49, Tryd.ntmps49
      go_wp2_with fail
      refine HJ.out.mono ?_
      rintro e1 w1 ⟨rfl, hr, hch⟩
      obtain ⟨q0, q1, qf, hl1, hcw1⟩ := HQ.out w1 hch
      go_wp2_with fail
      refine (HN2.out w1 hr hcw1).mono ?_
      rintro e2 w2 ⟨ev, rfl, hat, hch2⟩
      have hch2 := hch.more hch2
      clear q0 q1 qf
      obtain ⟨q0, q1, qf, hs, hcw⟩ := HQ.out w2 hch2
      have HAT := Lib.hid hat
      obtain ⟨b, hB, rfl, k0, k1⟩ := hat
      have hfin := fin2 (W := w2) (q := w.heap.size) q0 q1
      clear k0 k1
      go_wp2_with fail
      exact bodyPost_ret (v := .tuple #[cntV 0 0, .iface 73 (.pointer (some ⟨b, 0, none⟩))]) (by simp [results, Tryd.results49, go_sem, cntV, hfin]) rfl ⟨_, rfl, ((HAT.out.set _ _ _ hl1).set _ _ _ hl1).mono (by omega), (hcw.setCell (.inr (Nat.le_refl _)) _).setCell (.inr (Nat.le_refl _)) _⟩
    | got y p2 =>
      rw [hb2] at HN2
      obtain ⟨hy0, hy1, hp2⟩ := numG_got hb2 hp1
      simp only
      go_enter Tryd.func49, Tryd.ntmps49
      go_wp2_with fail
      refine HJ.out.mono ?_
      rintro e1 w1 ⟨rfl, hr, hch⟩
      obtain ⟨q0, q1, qf, hl1, hcw1⟩ := HQ.out w1 hch
      go_wp2_with fail
      refine (HN2.out w1 hr hcw1).mono ?_
      rintro e2 w2 ⟨rfl, hr2, hch2⟩
      have hch2 := hch.more hch2
      clear q0 q1 qf
      obtain ⟨q0, q1, qf, hs, hcw⟩ := HQ.out w2 hch2
      have hfin := fin2 (W := w2) (q := w.heap.size) q0 q1
      have HR2 := Lib.hid hr2; clear hr2
      go_wp2_with fail
      exact bodyPost_ret (v := .tuple #[cntV (own - x) (own - x - y), .nilIface]) (by simp [results, Tryd.results49, go_sem, cntV, hfin]) rfl ⟨rfl, (HR2.out.set (by omega) (by omega)).set (by omega) (by omega), (hcw.setCell (.inr (Nat.le_refl _)) _).setCell (.inr (Nat.le_refl _)) _⟩
end Go.Proofs.YtfkodpglgeghlaaDoor

namespace Go.Proofs.YtfkodpglgeghlaaDoor
open Go.RowKit

theorem box3 (w W : World) (x y z : Value) (T : TypeId) (h : Below (w.alloc (.cells #[x, y, z] T)).heap.size (w.alloc (.cells #[x, y, z] T)) W) : W.cell? ⟨w.heap.size, 0, none⟩ = some x ∧ W.cell? ⟨w.heap.size, 1, none⟩ = some y ∧ W.cell? ⟨w.heap.size, 2, none⟩ = some z := by
  obtain ⟨hc, _⟩ := bcell h
  exact ⟨by rw [hc _ _ (by simp), World.cell?_alloc_at _ _ _ _ (by simp)]; rfl, by rw [hc _ _ (by simp), World.cell?_alloc_at _ _ _ _ (by simp)]; rfl, by rw [hc _ _ (by simp), World.cell?_alloc_at _ _ _ _ (by simp)]; rfl⟩

set_option maxHeartbeats 2000000 in
theorem gcount_any (x : Wd) (w : World) (hok : x.1 ≠ [] ∧ Bts x.1 ∧ x.1.length ≤ 4000000) : Calls Tryd.prog 65 #[wordV x] w fun e w' => e = .returned (.tuple #[.int .i64 ((numU x.1).getD 0), .bool (numU x.1).isSome]) ∧ Below w.heap.size w w' := by
  have HNM := Lib.hid (fun W => num_any x.1 W hok.2.1 hok.2.2)
  have HPX := Lib.hid (fun W => hasPrefix_any 45 x.1 W hok.2.1 hok.1 hok.2.2)
  have HB0 := Lib.hid ((Below.refl w.heap.size w).alloc (Nat.le_refl _) (.cells #[.string (strOfNums x.1), .int .i64 (x.2.1 : Nat), .bool x.2.2] 91))
  have HBX := Lib.hid (fun W => box3 w W (.string (strOfNums x.1)) (.int .i64 (x.2.1 : Nat)) (.bool x.2.2) 91)
  have hu : numU x.1 = if x.1.head? = some 45 then none else numL x.1 := rfl
  unfold NumPost at HNM
  rw [show (UInt8.toNat 45 : Int) = 45 from rfl] at HPX
  have HU : Hid (numU x.1 = if decide (x.1.head? = some 45) = true then none else numL x.1) := by unfold Hid; rw [hu]; simp
  have HWV : Hid (wordV x = .agg #[.string (strOfNums x.1), .int .i64 (x.2.1 : Nat), .bool x.2.2]) := rfl
  clear hok hu
  generalize numU x.1 = un at *
  generalize decide (x.1.head? = some 45) = sg at *
  generalize numL x.1 = nn at *
  generalize ((x.2.1 : Nat) : Int) = xq at *
  generalize strOfNums x.1 = xs at *
  generalize x.2.2 = xf at *
  rw [HWV.out]
  clear HWV
  have HFIN : Hid (∀ W, Below (w.alloc (.cells #[.string xs, .int .i64 xq, .bool xf] 91)).heap.size (w.alloc (.cells #[.string xs, .int .i64 xq, .bool xf] 91)) W → Below w.heap.size w W) := fun W h => HB0.out.trans (h.mono (by simp))
  cases nn with
  | none =>
    have hun : un = none := by rw [HU.out]; cases sg <;> rfl
    subst hun
    simp only [Option.getD_none, Option.isSome_none] at HNM ⊢
    go_enter Tryd.func65, Tryd.ntmps65
    go_wp2_with fail
    refine (HNM.out _).mono ?_
    rintro e2 w2 ⟨rfl, hb2⟩
    have HF := Lib.hid (HFIN.out _ hb2)
    obtain ⟨k0, k1, k2⟩ := HBX.out _ hb2
    clear hb2
    go_wp2_with fail
    go_ret2
    exact ⟨rfl, HF.out⟩
  | some n =>
    simp only [Option.getD_some, Option.isSome_some] at HNM
    cases sg with
    | true =>
      have hun : un = none := by rw [HU.out]; rfl
      subst hun
      simp only [Option.getD_none, Option.isSome_none]
      go_enter Tryd.func65, Tryd.ntmps65
      go_wp2_with fail
      refine (HNM.out _).mono ?_
      rintro e2 w2 ⟨rfl, hb2⟩
      have HF := Lib.hid (HFIN.out _ hb2)
      obtain ⟨k0, k1, k2⟩ := HBX.out _ hb2
      clear hb2
      go_wp2_with (go_at_call 76; refine (HPX.out _).mono ?_; rintro e3 w3 ⟨rfl, rfl⟩)
      go_ret2
      exact ⟨rfl, HF.out⟩
    | false =>
      have hun : un = some n := by rw [HU.out]; rfl
      subst hun
      simp only [Option.getD_some, Option.isSome_some]
      go_enter Tryd.func65, Tryd.ntmps65
      go_wp2_with fail
      refine (HNM.out _).mono ?_
      rintro e2 w2 ⟨rfl, hb2⟩
      have HF := Lib.hid (HFIN.out _ hb2)
      obtain ⟨k0, k1, k2⟩ := HBX.out _ hb2
      clear hb2
      go_wp2_with (go_at_call 76; refine (HPX.out _).mono ?_; rintro e3 w3 ⟨rfl, rfl⟩)
      go_ret2
      exact ⟨rfl, HF.out⟩

/-- A head's five numbers at block q. -/
def H5 (W : World) (q : Nat) (ns : List Int) : Prop := (∀ j, j < 5 → W.cell? ⟨q, j, none⟩ = some (.int .i64 (kn ns j))) ∧ (∀ o, W.frozen? ⟨q, o, none⟩ = false) ∧ q < W.heap.size
theorem H5.chg {W W' : World} {q : Nat} {ns : List Int} {S : List Nat} (h : H5 W q ns) (hc : Chg S W W') (hq : q ∉ S) : H5 W' q ns :=
  ⟨fun j hj => (hc.cell h.2.2 hq).trans (h.1 j hj), fun o => (hc.frz h.2.2 hq).trans (h.2.1 o), Nat.lt_of_lt_of_le h.2.2 hc.size⟩
theorem kn_snoc (ns : List Int) (n : Int) (j : Nat) : kn (ns ++ [n]) j = if j = ns.length then n else kn ns j := by
  unfold kn
  by_cases h : j < ns.length
  · rw [if_neg (by omega)]; simp [List.getD, List.getElem?_append_left h]
  · by_cases e : j = ns.length
    · subst e; rw [if_pos rfl]; simp [List.getD]
    · rw [if_neg e]
      simp [List.getD, List.getElem?_append_right (show ns.length ≤ j by omega), show ns.length ≤ j by omega, show j - ns.length ≠ 0 by omega]
theorem H5.set {W : World} {q k : Nat} {ns : List Int} (h : H5 W q ns) (hk : ns.length = k) (h5 : k < 5) (n : Int) : H5 (W.setCell ⟨q, k, none⟩ (.int .i64 n)) q (ns ++ [n]) := by
  refine ⟨fun j hj => ?_, fun o => (World.frozen?_setCell _ _ _ _).trans (h.2.1 o), by simpa using h.2.2⟩
  rw [kn_snoc]
  by_cases e : j = k
  · subst e; rw [if_pos hk.symm]; exact set_at (h.1 j h5)
  · rw [if_neg (by omega)]; exact (set_off (.inr (by omega))).trans (h.1 j hj)
def chkV (A : Nat → Addr) : Option Bool → Value
  | none => .nilIface
  | some f => sentV A (if f = true then 1 else 0)

set_option maxHeartbeats 4000000 in
theorem gchk_any (A : Nat → Addr) (q : Nat) (ns : List Int) (w : World) (hS : Sents w A) (h : H5 w q ns) (hb : ∀ j, 0 ≤ kn ns j ∧ kn ns j < 1000000000) :
    Calls Tryd.prog 66 #[.pointer (some ⟨q, 0, none⟩)] w fun e w' => e = .returned (chkV A (checkG ns)) ∧ Below w.heap.size w w' := by
  have c0 := h.1 0 (by decide)
  have c1 := h.1 1 (by decide)
  have c2 := h.1 2 (by decide)
  have c3 := h.1 3 (by decide)
  have c4 := h.1 4 (by decide)
  have hql := h.2.2
  have e0 := hS.c0
  have e1 := hS.c1
  have z0 : 1 < w.heap.size := World.block_lt_of_cell? w _ e0
  have z1 : 0 < w.heap.size := World.block_lt_of_cell? w _ e1
  have z2 : 0 < w.heap.size := by omega
  obtain ⟨b10, b11⟩ := hb 1
  obtain ⟨b40, b41⟩ := hb 4
  have HD := Lib.hid (fun q => below_drewN (Below.refl w.heap.size w) q)
  unfold checkG
  clear h hS hb
  generalize kn ns 0 = n0 at *
  generalize kn ns 1 = n1 at *
  generalize kn ns 2 = n2 at *
  generalize kn ns 3 = n3 at *
  generalize kn ns 4 = n4 at *
  by_cases d1 : 8000 < n1 + n4
  · rw [if_pos (.inl d1)]
    go_enter Tryd.func66, Tryd.ntmps66
    go_wp2_with fail
    go_quiet (fail)
    go_wp2_with fail
    go_ret
    exact ⟨rfl, HD.out _⟩
  by_cases d3 : 8000 < n3
  · rw [if_pos (.inr d3)]
    go_enter Tryd.func66, Tryd.ntmps66
    go_wp2_with fail
    go_quiet (fail)
    go_wp2_with fail
    go_ret
    exact ⟨rfl, HD.out _⟩
  rw [if_neg (by omega)]
  by_cases d4 : n0 = n1 + n4
  · subst d4
    have hne : (n1 + n4 != n1 + n4) = false := by simp
    by_cases d5 : n2 = 0
    · subst d5
      rw [if_neg (by simp)]
      go_enter Tryd.func66, Tryd.ntmps66
      go_wp2_with fail
      go_quiet (fail)
      go_wp2_with fail
      go_ret
      exact ⟨rfl, HD.out _⟩
    · rw [if_pos (.inr d5)]
      have hn2 : (n2 != 0) = true := by simpa using d5
      clear d5
      go_enter Tryd.func66, Tryd.ntmps66
      go_wp2_with fail
      go_quiet (fail)
      go_wp2_with fail
      go_ret
      exact ⟨rfl, HD.out _⟩
  · rw [if_pos (.inl d4)]
    have hne : (n0 != n1 + n4) = true := by simpa using d4
    clear d4
    go_enter Tryd.func66, Tryd.ntmps66
    go_wp2_with fail
    go_quiet (fail)
    go_wp2_with fail
    go_ret
    exact ⟨rfl, HD.out _⟩
end Go.Proofs.YtfkodpglgeghlaaDoor

namespace Go.Proofs.YtfkodpglgeghlaaDoor
open Go.RowKit

theorem aig_bts : Bts [97, 105, 103] := by intro x hx; simp at hx; omega
theorem aig_toList : (strOfNums [97, 105, 103]).toList = [97, 105, 103] := by rw [str_toList]; rfl
theorem aig_str : strOfNums [97, 105, 103] = ⟨#[97, 105, 103]⟩ := rfl
/-- What the head's numbers come to. -/
def hgOf : Option (List Int) → Hg
  | none => .bad false
  | some ns => match checkG ns with
    | some f => .bad f
    | none => .got ns
def HrP (A : Nat → Addr) (w : World) (q : Nat) (R : Hg) (r : Ending) (w' : World) : Prop :=
  match R with
  | .bad f => r = .returned (sentV A (if f = true then 1 else 0)) ∧ Chg [q] w w'
  | .got ns => r = .returned .nilIface ∧ H5 w' q ns ∧ (∀ j, 0 ≤ kn ns j ∧ kn ns j < 1000000000) ∧ Chg [q] w w'

set_option maxHeartbeats 4000000 in
theorem hread_first (A : Nat → Addr) (q : Nat) (v : Value) (ws : List Wd) (w : World) (hS : Sents w A) (hv : WRow w v ws) (hok : WOk ws) (_hql : q < w.heap.size) (hd : ws.length ≠ 6 ∨ txt ws 0 ≠ [97, 105, 103]) :
    Calls Tryd.prog 46 #[.pointer (some ⟨q, 0, none⟩), v] w (HrP A w q (headG ws)) := by
  have he : headG ws = .bad false := by unfold headG; rw [if_pos hd]
  rw [he]
  obtain ⟨a, c, rfl, hc1, hc2, hw⟩ := hv
  unfold maxLen at hc2
  have e0 := hS.c0
  have z0 : 1 < w.heap.size := World.block_lt_of_cell? w _ e0
  have z2 : 0 < w.heap.size := by omega
  by_cases h6 : ws.length = 6
  · obtain ⟨g, rfl, hw2⟩ := hw.resolve_left (by omega)
    have k0 := hw2.text 0 (by omega)
    have ht := (hok.at (k := 0) (by omega)).2.1
    have hnb := str_ne ht aig_bts (hd.resolve_left (by omega))
    rw [aig_toList] at hnb
    unfold txt at hnb
    rw [h6]
    clear hS hw hw2 hok hd ht he
    generalize strOfNums (ws.getD 0 wd0).1 = xs at *
    simp only [Nat.zero_mul] at k0
    go_enter Tryd.func46, Tryd.ntmps46
    go_wp2_with fail
    go_ret
    exact ⟨rfl, Chg.refl _ _⟩
  · have hne : ((ws.length : Int) != 6) = true := by simp; omega
    clear hS hw hok hd he
    generalize ws.length = n at *
    clear h6
    go_enter Tryd.func46, Tryd.ntmps46
    go_wp2_with fail
    go_ret
    exact ⟨rfl, Chg.refl _ _⟩

set_option maxHeartbeats 8000000 in
theorem hread_main (A : Nat → Addr) (q : Nat) (v : Value) (ws : List Wd) (w : World) (hS : SentsP A q w) (hv : WRow w v ws) (hok : WOk ws) (hg : ∀ g c, v = .slice (some ⟨g, 0, none⟩) 6 c → g ≠ q) (h5 : H5 w q []) (h6 : ws.length = 6) (hx : txt ws 0 = [97, 105, 103]) :
    Calls Tryd.prog 46 #[.pointer (some ⟨q, 0, none⟩), v] w (HrP A w q (headG ws)) := by
  have he : headG ws = hgOf (numsU ws.tail []) := by
    unfold headG
    rw [if_neg (by simp [h6, hx])]
    unfold hgOf
    cases numsU ws.tail [] with
    | none => rfl
    | some ns => cases checkG ns <;> rfl
  have ht : ws.tail = ws.drop (0 + 1) := by simp
  obtain ⟨a, c, rfl, hc1, hc2, hw⟩ := hv
  unfold maxLen at hc2
  obtain ⟨g, rfl, hw2⟩ := hw.resolve_left (by omega)
  clear hw
  have hw := hw2; clear hw2
  rw [h6] at hc1 hg ⊢
  have hgq : g ≠ q := hg g c rfl
  have hgl := hw.sq
  have k0 := hw.text 0 (by omega)
  simp only [Nat.zero_mul] at k0
  rw [show (ws.getD 0 wd0).1 = [97, 105, 103] from hx, aig_str] at k0
  have HC : Hid (∀ W k, Chg [q] w W → k < 5 → W.cell? ⟨g, 3 + k * 3, none⟩ = some (.string (strOfNums (ws.getD (k + 1) wd0).1)) ∧ W.cell? ⟨g, 3 + k * 3 + 1, none⟩ = some (.int .i64 (ws.getD (k + 1) wd0).2.1) ∧ W.cell? ⟨g, 3 + k * 3 + 2, none⟩ = some (.bool (ws.getD (k + 1) wd0).2.2)) := fun W k hW hk => by
    have hnq : g ∉ [q] := by simpa using hgq
    have e1 : 3 + k * 3 = (k + 1) * 3 := by omega
    rw [e1]
    exact ⟨(hW.cell hgl hnq).trans (hw.text (k + 1) (by omega)), (hW.cell hgl hnq).trans (hw.pos (k + 1) (by omega)), (hW.cell hgl hnq).trans (hw.fst (k + 1) (by omega))⟩
  have HN : Hid (∀ k ns, k < 5 → numsU (ws.drop (k + 1)) ns = match numU (ws.getD (k + 1) wd0).1 with | none => none | some n => numsU (ws.drop (k + 1 + 1)) (ns ++ [n])) := fun k ns hk => by
    rw [drop_consW ws (k + 1) (by omega), numsU]
    all_goals (cases numU (ws.getD (k + 1) wd0).1 <;> rfl)
  have HCT := Lib.hid (fun k (hk : k < 5) W => gcount_any (ws.getD (k + 1) wd0) W (hok _ (by simp [List.getD, show k + 1 < ws.length by omega])))
  have HSP := Lib.hid (fun W (hW : Chg [q] w W) => (hS.chg hW).here)
  have HCK := Lib.hid (fun ns W (hW : Chg [q] w W) (h : H5 W q ns) hb => gchk_any A q ns W (hS.chg hW).here h hb)
  have HEN : Hid (ws.drop (5 + 1) = []) := by unfold Hid; rw [List.drop_eq_nil_of_le (by omega)]
  have H50 := Lib.hid h5
  have hql := h5.2.2
  rw [ht] at he
  have HE := Lib.hid he
  rw [he]
  clear he ht hS hok hg h5 hw hx
  have HUB := Lib.hid (fun k (n : Int) (h : numU (ws.getD (k + 1) wd0).1 = some n) => numU_bd h)
  clear HE
  generalize hF : numsU (ws.drop (0 + 1)) [] = F at *
  have HF0 := Lib.hid hF
  have hc0 : ¬ c = 1 := by omega
  clear hF hc1
  go_enter Tryd.func46, Tryd.ntmps46
  go_wp2_with fail
  clear k0
  go_loopw [23] (fun i wr => ∃ (k : Nat) (ns : List Int), k ≤ 5 ∧ i = .int .i64 k ∧ Hid (ns.length = k ∧ H5 wr q ns ∧ Chg [q] w wr ∧ (∀ j, 0 ≤ kn ns j ∧ kn ns j < 1000000000) ∧ numsU (ws.drop (k + 1)) ns = F)) (fun i _ => 5 - (intOf i).toNat)
  case atStart => exact ⟨0, [], by omega, rfl, rfl, H50.out, Chg.refl _ _, fun j => by simp [kn], HF0.out⟩
  case round =>
    obtain ⟨k, ns, hk, rfl, HH⟩ := hrel
    obtain ⟨hl, hh, hch, hbd, hnu⟩ := HH.out
    clear HH H50 HF0
    by_cases hlt : k < 5
    · obtain ⟨x0, x1, x2⟩ := HC.out wr k hch hlt
      have hsw := hch.size
      have HCN := Lib.hid (HCT.out k hlt)
      have hnx := HN.out k ns hlt
      rw [hnu] at hnx
      have HU := Lib.hid (fun n h => HUB.out k n h)
      have HWV : Hid (wordV (ws.getD (k + 1) wd0) = .agg #[.string (strOfNums (ws.getD (k + 1) wd0).1), .int .i64 ((ws.getD (k + 1) wd0).2.1 : Nat), .bool (ws.getD (k + 1) wd0).2.2]) := rfl
      generalize numU (ws.getD (k + 1) wd0).1 = un at *
      rw [HWV.out] at HCN
      clear HWV
      generalize (((ws.getD (k + 1) wd0).2.1 : Nat) : Int) = xq at *
      generalize strOfNums (ws.getD (k + 1) wd0).1 = xs at *
      generalize (ws.getD (k + 1) wd0).2.2 = xf at *
      have HST : Hid (∀ W2, Below (wr.alloc (.cells #[.string xs, .int .i64 xq, .bool xf] 91)).heap.size (wr.alloc (.cells #[.string xs, .int .i64 xq, .bool xf] 91)) W2 → Chg [q] w W2 ∧ H5 W2 q ns ∧ Sents W2 A) := fun W2 hb2 => by
        have h1 : Chg [q] w W2 := (hch.alloc _).still hb2
        exact ⟨h1, (hh.chg (S := []) (Chg.of_below ((Below.refl _ _).alloc (Nat.le_refl _) (.cells #[.string xs, .int .i64 xq, .bool xf] 91))) (by simp)).chg (S := []) (Chg.of_below hb2) (by simp), HSP.out _ h1⟩
      clear HC HN HCT HCK HSP HUB hh hnu
      cases un with
      | none =>
        simp only [Option.getD_none, Option.isSome_none] at HCN
        have HF := Lib.hid hnx; clear hnx
        rw [HF.out]
        clear HU hch hbd
        go_wp2_with fail
        refine (HCN.out _).mono ?_
        rintro e2 w2 ⟨rfl, hb2⟩
        obtain ⟨hc2', hh2, hs2⟩ := HST.out _ hb2
        have HC2 := Lib.hid hc2'
        have e0 := hs2.c0
        have z0 : 1 < w2.heap.size := World.block_lt_of_cell? w2 _ e0
        have z2 : 0 < w2.heap.size := by omega
        clear hh2 hs2 hb2 hc2'
        go_wp2_with fail
        go_ret
        exact ⟨rfl, HC2.out⟩
      | some n =>
        simp only [Option.getD_some, Option.isSome_some] at HCN
        have HF := Lib.hid hnx; clear hnx
        obtain ⟨n0, n1⟩ := HU.out n rfl
        clear HU hch
        go_wp2_with fail
        refine (HCN.out _).mono ?_
        rintro e2 w2 ⟨rfl, hb2⟩
        obtain ⟨hc2', hh2, hs2⟩ := HST.out _ hb2
        have HR2 : Hid (∃ (k' : Nat) (ns' : List Int), k' ≤ 5 ∧ Value.int .i64 ((k : Int) + 1) = .int .i64 k' ∧ Hid (ns'.length = k' ∧ H5 (w2.setCell ⟨q, k, none⟩ (.int .i64 n)) q ns' ∧ Chg [q] w (w2.setCell ⟨q, k, none⟩ (.int .i64 n)) ∧ (∀ j, 0 ≤ kn ns' j ∧ kn ns' j < 1000000000) ∧ numsU (ws.drop (k' + 1)) ns' = F)) :=
          ⟨k + 1, ns ++ [n], by omega, by simp, by simp [hl], hh2.set hl hlt n, hc2'.setCell (.inl (by simp)) _, fun j => (by
            rw [kn_snoc]
            split
            · exact ⟨n0, n1⟩
            · exact hbd j), HF.out.symm⟩
        obtain ⟨hcc, hfz, hsz⟩ := hh2
        have y0 := hcc k hlt
        clear hc2' hcc hs2 hb2 HST hbd HF
        go_wp2_with fail
        go_roundw
        case rel => exact HR2.out
        case measure => simp [intOf]; omega
    · have hk5 : k = 5 := by omega
      subst hk5
      rw [HEN.out, numsU] at hnu
      have HCC := Lib.hid (HCK.out ns wr hch hh hbd)
      have HR3 : Hid (∀ w3, Below wr.heap.size wr w3 → HrP A w q (hgOf F) (.returned (chkV A (checkG ns))) w3) := fun w3 hb3 => by
        rw [← hnu]
        cases hck : checkG ns with
        | none =>
          rw [show hgOf (some ns) = .got ns by simp [hgOf, hck]]
          exact ⟨rfl, hh.chg (S := []) (Chg.of_below hb3) (by simp), hbd, hch.still hb3⟩
        | some f =>
          rw [show hgOf (some ns) = .bad f by simp [hgOf, hck]]
          exact ⟨rfl, hch.still hb3⟩
      clear HC HN HCT HCK HSP HUB hh hnu hbd
      go_wp2_with fail
      refine HCC.out.mono ?_
      rintro e3 w3 ⟨rfl, hb3⟩
      have HP := Lib.hid (HR3.out w3 hb3)
      clear HR3 HCC hb3
      generalize chkV A (checkG ns) = cv at *
      go_wp2_with fail
      go_ret
      exact HP.out
theorem hread_any (A : Nat → Addr) (q : Nat) (v : Value) (ws : List Wd) (w : World) (hS : SentsP A q w) (hv : WRow w v ws) (hok : WOk ws) (hg : ∀ g c, v = .slice (some ⟨g, 0, none⟩) 6 c → g ≠ q) (h5 : H5 w q []) :
    Calls Tryd.prog 46 #[.pointer (some ⟨q, 0, none⟩), v] w (HrP A w q (headG ws)) := by
  by_cases h : ws.length = 6 ∧ txt ws 0 = [97, 105, 103]
  · exact hread_main A q v ws w hS hv hok hg h5 h.1 h.2
  · exact hread_first A q v ws w hS.here hv hok h5.2.2 (by
      by_cases h6 : ws.length = 6
      · exact .inr fun e => h ⟨h6, e⟩
      · exact .inl h6)
end Go.Proofs.YtfkodpglgeghlaaDoor

namespace Go.Proofs.YtfkodpglgeghlaaDoor
open Go.RowKit

/-- What the output's closure answers: the literal lies in block q2. -/
def OcP (A : Nat → Addr) (w : World) (q2 : Nat) (R : Option Int) (r : Ending) (w' : World) : Prop :=
  match R with
  | none => r = .returned (sentV A 0) ∧ Below w.heap.size w w'
  | some n => r = .returned .nilIface ∧ w'.cell? ⟨q2, 0, none⟩ = some (.int .i64 n) ∧ Chg [q2] w w'
theorem outW_got {last n : Int} {ws : List Wd} (h : outW last ws = some n) : 0 ≤ n ∧ n < 1000000000 ∧ n ≤ last := by
  unfold outW at h
  split at h
  · cases h
  · cases hu : numU (txt ws 0) with
    | none => rw [hu] at h; cases h
    | some m =>
      rw [hu] at h
      dsimp only at h
      split at h
      · cases h
      · injection h with h
        subst h
        have := numU_bd hu
        omega

set_option maxHeartbeats 4000000 in
theorem oclo_any (A : Nat → Addr) (q1 q2 : Nat) (last : Int) (v : Value) (ws : List Wd) (w : World) (hS : SentsP A q2 w) (hv : WRow w v ws) (hok : WOk ws) (h1 : w.cell? ⟨q1, 0, none⟩ = some (.int .i64 last)) (h2 : w.cell? ⟨q2, 0, none⟩ = some (.int .i64 0)) (hf : w.frozen? ⟨q2, 0, none⟩ = false) :
    Calls Tryd.prog 67 #[v, .pointer (some ⟨q1, 0, none⟩), .pointer (some ⟨q2, 0, none⟩)] w (OcP A w q2 (outW last ws)) := by
  obtain ⟨a, c, rfl, hc1, hc2, hw⟩ := hv
  unfold maxLen at hc2
  have e0 := hS.here.c0
  have z0 : 1 < w.heap.size := World.block_lt_of_cell? w _ e0
  have z2 : 0 < w.heap.size := by omega
  have HSP := Lib.hid (fun W (hW : Below w.heap.size w W) => (hS.chg (Chg.of_below hW)).here)
  by_cases h6 : ws.length = 1
  · obtain ⟨g, rfl, hw2⟩ := hw.resolve_left (by omega)
    have x0 := hw2.text 0 (by omega)
    have x1 := hw2.pos 0 (by omega)
    have x2 := hw2.fst 0 (by omega)
    have HCN := Lib.hid (fun W => gcount_any (ws.getD 0 wd0) W (hok _ (by simp [List.getD, show 0 < ws.length by omega])))
    have HR : Hid (outW last ws = match numU (ws.getD 0 wd0).1 with | none => none | some n => if last < n then none else some n) := by
      unfold Hid outW txt
      rw [if_neg (by omega)]
      all_goals (cases numU (ws.getD 0 wd0).1 <;> rfl)
    have HUB := Lib.hid (fun (n : Int) (h : numU (ws.getD 0 wd0).1 = some n) => numU_bd h)
    have HWV : Hid (wordV (ws.getD 0 wd0) = .agg #[.string (strOfNums (ws.getD 0 wd0).1), .int .i64 ((ws.getD 0 wd0).2.1 : Nat), .bool (ws.getD 0 wd0).2.2]) := rfl
    have HKP : Hid (∀ W, Below w.heap.size w W → W.cell? ⟨q1, 0, none⟩ = some (.int .i64 last) ∧ W.cell? ⟨q2, 0, none⟩ = some (.int .i64 0) ∧ W.frozen? ⟨q2, 0, none⟩ = false ∧ q2 < W.heap.size) := fun W hW => by
      have a1 := World.block_lt_of_cell? w _ h1
      have a2 := World.block_lt_of_cell? w _ h2
      exact ⟨(hW.cell (p := ⟨q1, 0, none⟩) a1).trans h1, (hW.cell (p := ⟨q2, 0, none⟩) a2).trans h2, (hW.frozen (p := ⟨q2, 0, none⟩) a2).trans hf, Nat.lt_of_lt_of_le a2 hW.size⟩
    generalize outW last ws = R at *
    rw [h6] at hc1 ⊢
    generalize numU (ws.getD 0 wd0).1 = un at *
    rw [HWV.out] at HCN
    clear HWV hw hw2 hok hS h1 h2 hf e0 z0 z2
    simp only [Nat.zero_mul, Nat.zero_add] at x0 x1 x2
    generalize (((ws.getD 0 wd0).2.1 : Nat) : Int) = xq at *
    generalize strOfNums (ws.getD 0 wd0).1 = xs at *
    generalize (ws.getD 0 wd0).2.2 = xf at *
    cases un with
    | none =>
      simp only [Option.getD_none, Option.isSome_none] at HCN
      rw [HR.out]
      clear HR HUB
      go_enter Tryd.func67, Tryd.ntmps67
      go_wp2_with fail
      refine (HCN.out _).mono ?_
      rintro e2 w2 ⟨rfl, hb2⟩
      have e0 := (HSP.out _ hb2).c0
      have z0 : 1 < w2.heap.size := World.block_lt_of_cell? w2 _ e0
      have z2 : 0 < w2.heap.size := by omega
      have HB := Lib.hid hb2; clear hb2
      go_wp2_with fail
      go_ret
      exact ⟨rfl, HB.out⟩
    | some n =>
      simp only [Option.getD_some, Option.isSome_some] at HCN
      obtain ⟨n0, n1⟩ := HUB.out n rfl
      clear HUB
      by_cases hl : last < n
      · rw [HR.out]
        dsimp only
        rw [if_pos hl]
        clear HR
        go_enter Tryd.func67, Tryd.ntmps67
        go_wp2_with fail
        refine (HCN.out _).mono ?_
        rintro e2 w2 ⟨rfl, hb2⟩
        have e0 := (HSP.out _ hb2).c0
        have z0 : 1 < w2.heap.size := World.block_lt_of_cell? w2 _ e0
        have z2 : 0 < w2.heap.size := by omega
        obtain ⟨y1, y2, y3, y4⟩ := HKP.out _ hb2
        have HB := Lib.hid hb2; clear hb2
        go_wp2_with fail
        go_ret
        exact ⟨rfl, HB.out⟩
      · rw [HR.out]
        dsimp only
        rw [if_neg hl]
        clear HR
        go_enter Tryd.func67, Tryd.ntmps67
        go_wp2_with fail
        refine (HCN.out _).mono ?_
        rintro e2 w2 ⟨rfl, hb2⟩
        obtain ⟨y1, y2, y3, y4⟩ := HKP.out _ hb2
        have HY2 := Lib.hid y2
        have HB := Lib.hid hb2; clear hb2
        go_wp2_with fail
        go_ret
        exact ⟨rfl, set_at HY2.out, (Chg.of_below HB.out).setCell (.inl (by simp)) _⟩
  · have hne : ((ws.length : Int) != 1) = true := by simp; omega
    have HR : Hid (outW last ws = none) := by unfold Hid outW; rw [if_pos h6]
    rw [HR.out]
    clear HR hw hok hS HSP
    generalize ws.length = n at *
    clear h6
    go_enter Tryd.func67, Tryd.ntmps67
    go_wp2_with fail
    go_ret
    exact ⟨rfl, Below.refl _ _⟩
end Go.Proofs.YtfkodpglgeghlaaDoor
