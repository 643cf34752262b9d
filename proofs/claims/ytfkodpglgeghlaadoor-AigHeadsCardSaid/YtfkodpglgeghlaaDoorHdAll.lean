/- The contract of skolemmake.Near: whether all ints of the slice are at least -2^60. Conditions: the slice reads as the list named. · Pure: the texts of the law AigHeads: a head of five digits, lines of one zero, gates of two bytes. · Two bytes laid and appended: onto a row of the call's own, and onto the bytes of a constant; a row of bytes just laid. · The law AigHeads: true for whatever arguments. Conditions: the ints fit in 64 bits; the errors lie as 'Sents' says; the table of powers of ten is as the program lays it. -/
import Derived.Test.YtfkodpglgeghlaaDoorBase
import Derived.Test.YtfkodpglgeghlaaDoorChecked
import Derived.Lib.Hide
import Derived.Test.YtfkodpglgeghlaaDoorGgM
import Derived.Test.YtfkodpglgeghlaaDoorGbM
import Derived.Test.YtfkodpglgeghlaaDoorAbM2
import Derived.ArgAppend
import Derived.Test.YtfkodpglgeghlaaDoorCqM
import Derived.Test.YtfkodpglgeghlaaDoorGrY
import Derived.Deep.RegionHeld3
import Derived.Deep.QuietTactic
import Derived.BigQuiet
namespace Go.Proofs.YtfkodpglgeghlaaDoor
open Go.RowKit

def nearB (l : Int) : Bool := !decide (l < -1152921504606846976)
theorem nearB_iff (l : Int) : nearB l = true ↔ -1152921504606846976 ≤ l := by unfold nearB; simp

set_option maxHeartbeats 1000000 in
theorem near_any (v : Value) (xs : List Int) (w : World) (hv : Row w v xs) :
    Calls Tryd.prog 20 #[v] w fun e w' => e = .returned (.bool (xs.all nearB)) ∧ w = w' := by
  obtain ⟨a, c, rfl, hxc, hcm, hx⟩ := hv
  unfold maxLen at hcm
  have HX := Lib.hid hx; clear hx
  generalize hN : xs.length = n at *
  have HN := Lib.hid hN; clear hN
  go_enter Tryd.func20, Tryd.ntmps20
  go_wp2
  go_loop [3] (fun i => ∃ k : Nat, k ≤ n ∧ i = .int .i64 k ∧ Hid ((xs.take k).all nearB = true)) (fun i => n - (intOf i).toNat)
  case atStart => exact ⟨0, Nat.zero_le _, rfl, by simp [Hid]⟩
  case round =>
    obtain ⟨k, hk, rfl, HQ⟩ := hrel
    by_cases hlt : k < n
    · obtain ⟨b, off, ha, hb, hc⟩ := HX.out.resolve_left (by omega)
      subst ha
      have g1 : w.cell? ⟨b, off + k, none⟩ = some (.int .i64 (xs.getD k 0)) := hc k hlt
      clear hc
      have hkl : k < xs.length := by rw [HN.out]; exact hlt
      have HT := Lib.hid (show (xs.take (k + 1)).all nearB = ((xs.take k).all nearB && nearB (xs.getD k 0)) by rw [take_snoc xs k hkl, List.all_append]; simp)
      have HF := Lib.hid (show nearB (xs.getD k 0) = false → xs.all nearB = false from fun h => by
        rw [List.all_eq_false]
        exact ⟨xs[k], List.getElem_mem hkl, by simpa [List.getD, hkl] using h⟩)
      clear hkl
      generalize xs.getD k 0 = y at *
      by_cases hy : y < -1152921504606846976
      · go_wp2
        go_ret
        exact ⟨by rw [HF.out (by unfold nearB; simp [hy])]; rfl, rfl⟩
      · go_wp2
        go_round
        case rel => exact ⟨k + 1, by omega, by go_num, by unfold Hid; rw [HT.out, HQ.out]; unfold nearB; simp; omega⟩
        case measure => simp [intOf]; omega
    · have hkn : k = n := by omega
      have HA := Lib.hid (show xs.all nearB = true by have := HQ.out; rwa [hkn, List.take_of_length_le (by rw [HN.out]; exact Nat.le_refl _)] at this)
      clear hlt
      go_wp2
      go_ret
      exact ⟨by rw [HA.out]; rfl, rfl⟩
end Go.Proofs.YtfkodpglgeghlaaDoor

namespace Go.Proofs.YtfkodpglgeghlaaDoor
open Go.RowKit

def reps (x : List Int) : Nat → List Int
  | 0 => []
  | k + 1 => reps x k ++ x
theorem reps_cons (x : List Int) : ∀ k, reps x (k + 1) = x ++ reps x k
  | 0 => by simp [reps]
  | k + 1 => by
    show reps x (k + 1) ++ x = x ++ (reps x k ++ x)
    rw [reps_cons x k, List.append_assoc]
theorem reps_len (x : List Int) : ∀ k, (reps x k).length = k * x.length
  | 0 => by simp [reps]
  | k + 1 => by rw [reps, List.length_append, reps_len x k, Nat.succ_mul]
def gz (i : Nat) : Nat → Nat → List (Int × Int)
  | _, 0 => []
  | k, m + 1 => (2 * ((i : Int) + (k : Int)), 2 * ((i : Int) + (k : Int))) :: gz i (k + 1) m
theorem gz_len (i : Nat) : ∀ (m k : Nat), (gz i k m).length = m
  | 0, _ => rfl
  | m + 1, k => by rw [gz, List.length_cons, gz_len i m]
theorem gz_getD (i : Nat) : ∀ (m k j : Nat), j < m → (gz i k m).getD j (0, 0) = (2 * ((i : Int) + (k : Int) + (j : Int)), 2 * ((i : Int) + (k : Int) + (j : Int)))
  | 0, _, _, h => absurd h (Nat.not_lt_zero _)
  | m + 1, k, 0, _ => by rw [gz, List.getD_cons_zero]; simp
  | m + 1, k, j + 1, h => by
    rw [gz, List.getD_cons_succ, gz_getD i m (k + 1) j (by omega)]
    have : (i : Int) + ((k + 1 : Nat) : Int) + (j : Int) = (i : Int) + (k : Int) + ((j + 1 : Nat) : Int) := by omega
    rw [this]
theorem gz_bytes (i : Nat) : ∀ (m k : Nat), gatesB i k (gz i k m) = reps [2, 0] m
  | 0, _ => rfl
  | m + 1, k => by
    rw [gz, gatesB, gz_bytes i m (k + 1), reps_cons]
    rw [show (2 * ((i : Int) + (k : Int) + 1) - 2 * ((i : Int) + (k : Int))).toNat = 2 by omega, show (2 * ((i : Int) + (k : Int)) - 2 * ((i : Int) + (k : Int))).toNat = 0 by omega, packL_small (by omega), packL_small (by omega)]
    rfl
theorem outs_zero : ∀ m : Nat, outsT (List.replicate m 0) = reps [48, 10] m
  | 0 => rfl
  | m + 1 => by
    rw [List.replicate_succ, reps_cons, ← outs_zero m]
    unfold outsT
    rw [List.flatMap_cons]
    unfold lineL
    rw [bodyL_one, itoaL_0]
    rfl
theorem gz_right (i m d : Nat) (h1 : i ≤ 9) (h2 : m ≤ 9) (h3 : d ≤ 9) : RightC i (gz i 0 m) (List.replicate d 0) := by
  refine ⟨by rw [gz_len]; omega, by rw [List.length_replicate]; omega, fun j hj => ?_, fun x hx => ?_⟩
  · rw [gz_len] at hj
    rw [gz_getD i m 0 j hj]
    dsimp only
    omega
  · rw [List.eq_of_mem_replicate hx]
    omega
theorem itoaL_dig {n : Nat} (h : n < 10) : itoaL (n : Int) = [48 + (n : Int)] := by
  rw [itoaL_pos (by omega)]
  simpa using decL_small h
def hdk (ns : List Int) (k : Nat) : List Int := ([97, 105, 103] : List Int) ++ (ns.take k).flatMap fun d => [32, 48 + d]
theorem hdk_0 (ns : List Int) : hdk ns 0 = [97, 105, 103] := by simp [hdk]
theorem hdk_succ (ns : List Int) (k : Nat) (h : k < ns.length) : hdk ns (k + 1) = hdk ns k ++ [32, 48 + ns.getD k 0] := by
  unfold hdk
  rw [List.take_succ_eq_append_getElem h, List.flatMap_append]
  simp [List.getD, h]
theorem hdk_five {a b c d e : Nat} (ha : a < 10) (hb : b < 10) (hc : c < 10) (hd : d < 10) (he : e < 10) : hdk [(a : Int), b, c, d, e] 5 ++ [10] = [97, 105, 103, 32] ++ lineL [(a : Int), b, c, d, e] := by
  rw [← headB5_eq]
  unfold headB5 hdk
  rw [itoaL_dig ha, itoaL_dig hb, itoaL_dig hc, itoaL_dig hd, itoaL_dig he]
  simp
def headsT (a b c d e : Nat) : List Int := hdk [(a : Int), b, c, d, e] 5 ++ [10] ++ reps [48, 10] d ++ reps [2, 0] e
theorem readG_good (a b c d e : Nat) (ha : a < 10) (hb : b < 10) (hc : c < 10) (hd : d < 10) (he : e < 10) (h : a = b + e ∧ c = 0) : readG (headsT a b c d e) = (((b : Int), gz b 0 e, List.replicate d 0), none) := by
  obtain ⟨rfl, rfl⟩ := h
  have hR := gz_right b e d (by omega) (by omega) (by omega)
  have := readG_back b (gz b 0 e) (List.replicate d 0) hR
  rw [← this]
  unfold headsT textB headB
  rw [hdk_five ha hb hc hd he, gz_bytes, outs_zero, gz_len, List.length_replicate]
  rw [show (((b + e : Nat) : Int)) = (b : Int) + (e : Int) by omega]
  rfl
theorem readG_wrong (a b c d e : Nat) (ha : a < 10) (hb : b < 10) (hc : c < 10) (hd : d < 10) (he : e < 10) (h : ¬ (a = b + e ∧ c = 0)) : readG (headsT a b c d e) = badC (false, 0) := by
  unfold headsT
  rw [hdk_five ha hb hc hd he, List.append_assoc, readG_head _ _ _ _ _ _ (by intro x hx; simp at hx; omega)]
  have hc : checkG [(a : Int), b, c, d, e] = some false := by
    unfold checkG
    simp only [kn, List.getD_cons_zero, List.getD_cons_succ]
    rw [if_neg (by omega), if_pos (by omega)]
  rw [hc]
def bigA : List Int := [97, 105, 103, 32, 56, 48, 48, 49, 32, 56, 48, 48, 49, 32, 48, 32, 48, 32, 48, 10]
def bigB : List Int := [97, 105, 103, 32, 57, 48, 48, 48, 32, 52, 53, 48, 48, 32, 48, 32, 48, 32, 52, 53, 48, 48, 10]
theorem itoa_8001 : itoaL 8001 = [56, 48, 48, 49] := by
  rw [itoaL_pos (by omega), show (8001 : Int).toNat = 8001 from rfl, decL_big (by omega), decL_big (by omega), decL_big (by omega), decL_small (by omega)]; rfl
theorem itoa_9000 : itoaL 9000 = [57, 48, 48, 48] := by
  rw [itoaL_pos (by omega), show (9000 : Int).toNat = 9000 from rfl, decL_big (by omega), decL_big (by omega), decL_big (by omega), decL_small (by omega)]; rfl
theorem itoa_4500 : itoaL 4500 = [52, 53, 48, 48] := by
  rw [itoaL_pos (by omega), show (4500 : Int).toNat = 4500 from rfl, decL_big (by omega), decL_big (by omega), decL_big (by omega), decL_small (by omega)]; rfl
theorem readG_bigA : readG bigA = badC (true, 0) := by
  have h : bigA = [97, 105, 103, 32] ++ lineL [8001, 8001, 0, 0, 0] ++ [] := by
    rw [← headB5_eq]; unfold headB5; rw [itoa_8001, itoaL_0]; rfl
  rw [h, readG_head _ _ _ _ _ _ (by intro x hx; simp at hx; omega), show checkG [8001, 8001, 0, 0, 0] = some true by simp [checkG, kn]]
theorem readG_bigB : readG bigB = badC (true, 0) := by
  have h : bigB = [97, 105, 103, 32] ++ lineL [9000, 4500, 0, 0, 4500] ++ [] := by
    rw [← headB5_eq]; unfold headB5; rw [itoa_9000, itoa_4500, itoaL_0]; rfl
  rw [h, readG_head _ _ _ _ _ _ (by intro x hx; simp at hx; omega), show checkG [9000, 4500, 0, 0, 4500] = some true by simp [checkG, kn]]
theorem Bts_reps {x : List Int} (h : Bts x) : ∀ k, Bts (reps x k)
  | 0 => Bts.nil
  | k + 1 => (Bts_reps h k).append h
theorem headsT_bts {a b c d e : Nat} (ha : a < 10) (hb : b < 10) (hc : c < 10) (hd : d < 10) (he : e < 10) : Bts (headsT a b c d e) := by
  refine Bts.append (Bts.append (fun x hx => ?_) (Bts_reps (fun x hx => by simp at hx; omega) d)) (Bts_reps (fun x hx => by simp at hx; omega) e)
  simp [hdk] at hx
  omega
theorem headsT_len {a b c d e : Nat} (hd : d < 10) (he : e < 10) : (headsT a b c d e).length ≤ 100 := by
  unfold headsT
  simp [hdk, reps_len]
  omega
end Go.Proofs.YtfkodpglgeghlaaDoor

namespace Go.Proofs.YtfkodpglgeghlaaDoor
open Go.RowKit

theorem row_newB (w : World) (ys : List Int) (mk : Nat × Nat) (hl : ys.length ≤ 1000) : RowG (Value.int .u8) 0 (w.alloc (.cells (ys.map (Value.int .u8)).toArray 5 mk)) (.slice (some ⟨w.heap.size, 0, none⟩) ys.length ys.length) ys := by
  refine ⟨some ⟨w.heap.size, 0, none⟩, ys.length, rfl, Nat.le_refl _, by unfold maxLen; omega, .inr ⟨w.heap.size, 0, rfl, by simp, fun i hi => ?_⟩⟩
  rw [World.cell?_alloc_mark]
  simp [List.getD, hi]
theorem cell_new2 (w : World) (x y : Value) : ∀ j u, ([x, y] : List Value)[j]? = some u → (w.alloc (.cells #[x, y] 5)).cell? ((⟨w.heap.size, 0, none⟩ : Addr).add j) = some u := fun j u hj => by
  rw [show ((⟨w.heap.size, 0, none⟩ : Addr).add j) = ⟨w.heap.size, j, none⟩ by unfold Addr.add; split <;> simp_all, World.cell?_alloc_at _ _ _ _ rfl]
  simpa using hj
/-- 'append(v, x, y)', v a row of the call's own. -/
theorem wpList_app2 {ops : Array Oper} {rest : List Oper} {o : Oper} {a : Act} {Q : Exit → Act → World → Prop} (hgd : o.guard = none) (s x : Operand)
    (ho : o.op = .call { callee := .builtin .append, args := #[s, x], argTypes := #[23, 23] })
    (wr : World) (B : Nat) (v : Value) (n : Nat) (xs : List Int) (y z : Int)
    (hown : wr.ownsRow B 5 1 v n (xs.map (Value.int .u8))) (hB : B ≤ wr.heap.size) (hn : n ≤ 100000) (hs : a.eval s = v) (hx : a.eval x = .slice (some ⟨wr.heap.size, 0, none⟩) 2 2)
    (h : ∀ v' w', w'.ownsRow B 5 1 v' (n + 2) ((xs ++ [y, z]).map (Value.int .u8)) → Below B wr w' → wpList Tryd.prog ops Q rest (a.put o.dst v') w') :
    wpList Tryd.prog ops Q (o :: rest) a (wr.alloc (.cells #[.int .u8 y, .int .u8 z] 5)) := by
  have hal : Below wr.heap.size wr (wr.alloc (.cells #[.int .u8 y, .int .u8 z] 5)) := (Below.refl _ wr).alloc (Nat.le_refl _) _
  refine wpList_appC 23 5 (.int .u8 0) 1 1 Tryd.underlying23 infoU8 rfl (by decide) (by decide) hgd s x ho _ B v n _ (some ⟨wr.heap.size, 0, none⟩) 2 2 [.int .u8 y, .int .u8 z] (own_keep hown hal) (Nat.le_trans hB hal.size) (by omega) rfl (.inr ⟨_, rfl, cell_new2 wr _ _⟩) (fun u hu => ?_) hs hx fun v' w' h1 h2 => ?_
  · rcases List.mem_cons.1 hu with rfl | hu
    · rfl
    · rw [List.mem_singleton.1 hu]; rfl
  · refine h v' w' (by rw [List.map_append]; exact h1) ((hal.mono hB).trans h2.below)
/-- 'append(v, x, y)', v the bytes of a constant. -/
theorem wpList_const2 {ops : Array Oper} {rest : List Oper} {o : Oper} {a : Act} {Q : Exit → Act → World → Prop} (hgd : o.guard = none) (s x : Operand)
    (ho : o.op = .call { callee := .builtin .append, args := #[s, x], argTypes := #[23, 23] })
    (w : World) (g n : Nat) (xs : List Int) (hl : xs.length = n) (hn : n ≤ 1000) (hg : g < w.heap.size) (hc : ∀ j v, (xs.map (Value.int .u8))[j]? = some v → w.cell? ⟨g, j, none⟩ = some v) (y z : Int)
    (hs : a.eval s = .slice (some ⟨g, 0, none⟩) n n) (hx : a.eval x = .slice (some ⟨w.heap.size, 0, none⟩) 2 2)
    (h : ∀ v' w', w'.ownsRow w.heap.size 5 1 v' (n + 2) ((xs ++ [y, z]).map (Value.int .u8)) → Below w.heap.size w w' → wpList Tryd.prog ops Q rest (a.put o.dst v') w') :
    wpList Tryd.prog ops Q (o :: rest) a (w.alloc (.cells #[.int .u8 y, .int .u8 z] 5)) := by
  obtain ⟨i0, hi, hz0, hz1, hz2⟩ := info_parts infoU8
  refine wpList_append_grows _ hgd s x 23 ho 5 i0 (.int .u8 0) 1 1 Tryd.underlying23 hi hz0 hz1 hz2 rfl (by decide) (some ⟨g, 0, none⟩) n n (xs.map (Value.int .u8)) hs (fun e => by cases e) (by simp [hl]) (fun b' hb j u hj => ?_) ⟨w.heap.size, 0, none⟩ 2 2 [.int .u8 y, .int .u8 z] hx rfl (cell_new2 w _ _) (fun u hu => ?_) (by omega) (by unfold maxLen; omega) (by omega) ?_
  · obtain rfl := Option.some.inj hb
    rw [add0, World.cell?_alloc_past _ _ _ hg]
    exact hc j u hj
  · rcases List.mem_cons.1 hu with rfl | hu
    · rfl
    · rw [List.mem_singleton.1 hu]; rfl
  · intro v' w' h2 h3
    refine h v' w' ?_ (((Below.refl _ w).alloc (Nat.le_refl _) _).grown h3 (by simp) (fun k hk => by cases hk))
    have := own_base h2 (show w.heap.size ≤ _ by simp)
    simpa using this
end Go.Proofs.YtfkodpglgeghlaaDoor

namespace Go.Proofs.YtfkodpglgeghlaaDoor
open Go.RowKit

/-- What Read answers where it does not take the text. -/
def BadH (A : Nat → Addr) (w : World) (f : Bool) (r : Ending) (w' : World) : Prop :=
  (∃ a c a' c' ev, r = .returned (.tuple #[circV 0 (.slice a 0 c) (.slice a' 0 c'), ev]) ∧ OutF A w.heap.size w' ev (some (f, 0))) ∧ Below w.heap.size w w'
theorem read_badH {A : Nat → Addr} {w : World} {P : Program} {f : Nat} {args : Array Value} {R : Res} {b : Bool} (h : Calls P f args w (ReadP A w R)) (hR : R = badC (b, 0)) : Calls P f args w (BadH A w b) := by
  refine h.mono ?_
  rintro e w' ⟨⟨u, v, ev, h1, h2, h3, h4⟩, h5⟩
  rw [hR] at h1 h2 h3 h4
  obtain ⟨a, c, rfl, _⟩ := h2
  obtain ⟨a', c', rfl, _⟩ := h3
  exact ⟨⟨a, c, a', c', ev, h1, h4⟩, h5⟩
theorem tdiv8 : ∀ n : Nat, n < 9 → ((n : Int).tdiv 8 = ((n / 8 : Nat) : Int)) := by decide
theorem num_nat (m : Int) (d : Nat) (h : 0 < d) : ∃ n : Nat, m % (d : Int) = (n : Int) ∧ n < d := by
  have h1 := Int.emod_nonneg m (show (d : Int) ≠ 0 by omega)
  have h2 := Int.emod_lt_of_pos m (show (0 : Int) < (d : Int) by omega)
  exact ⟨(m % (d : Int)).toNat, by omega, by omega⟩

set_option maxRecDepth 8000 in
set_option maxHeartbeats 16000000 in
theorem lawHd_any (A : Nat → Addr) (m i l o a : Int) (w : World) (hS : Sents w A) (ht : Tabs w) (b1 : in64 m) (b2 : in64 i) (b3 : in64 l) (b4 : in64 o) (b5 : in64 a) :
    Calls Tryd.prog 5 #[.int .i64 m, .int .i64 i, .int .i64 l, .int .i64 o, .int .i64 a] w fun e w' => e = .returned (.bool true) ∧ Below w.heap.size w w' := by
  have HF := Lib.hid (first12_any A w hS ht)
  have HSN := Lib.hid (fun W (hW : Below w.heap.size w W) => hS.keep hW)
  obtain ⟨n0, e0, h0⟩ := num_nat m 9 (by omega)
  obtain ⟨n1, e1, h1⟩ := num_nat i 5 (by omega)
  obtain ⟨n2, e2, h2⟩ := num_nat l 9 (by omega)
  obtain ⟨n3, e3, h3⟩ := num_nat o 3 (by omega)
  obtain ⟨n4, e4, h4⟩ := num_nat a 5 (by omega)
  unfold in64 at b1 b2 b3 b4 b5
  have N0 := Lib.hid (fun W => number_any m 9 W (by omega) (by omega) (by omega) (by omega))
  have N1 := Lib.hid (fun W => number_any i 5 W (by omega) (by omega) (by omega) (by omega))
  have N2 := Lib.hid (fun W => number_any l 9 W (by omega) (by omega) (by omega) (by omega))
  have N3 := Lib.hid (fun W => number_any o 3 W (by omega) (by omega) (by omega) (by omega))
  have N4 := Lib.hid (fun W => number_any a 5 W (by omega) (by omega) (by omega) (by omega))
  have e0' : m % 9 = (n0 : Int) := e0
  have e1' : i % 5 = (n1 : Int) := e1
  have e2' : l % 9 = (n2 : Int) := e2
  have e3' : o % 3 = (n3 : Int) := e3
  have e4' : a % 5 = (n4 : Int) := e4
  rw [e0'] at N0
  rw [e1'] at N1
  rw [e2'] at N2
  rw [e3'] at N3
  rw [e4'] at N4
  have hq := tdiv8 n2 h2
  obtain ⟨c, hc⟩ : ∃ c : Nat, n2 / 8 = c := ⟨_, rfl⟩
  rw [hc] at hq
  have hc1 : c < 2 := by omega
  have hc2 : n2 = 8 * c + n2 % 8 := by omega
  clear e0 e1 e2 e3 e4 e0' e1' e2' e3' e4' hS ht b1 b2 b3 b4 b5 hc hc2
  go_enter Tryd.func5, Tryd.ntmps5
  go_wp2_with fail
  refine HF.out.mono ?_
  rintro e w1 ⟨rfl, hb1⟩
  have hal : Below w1.heap.size w1 (w1.alloc (.cells #[.int .i64 (n0 : Int), .int .i64 (n1 : Int), .int .i64 (c : Int), .int .i64 (n3 : Int), .int .i64 (n4 : Int)] 3)) := (Below.refl _ w1).alloc (Nat.le_refl _) _
  have hcl : ∀ k, k < 5 → (w1.alloc (.cells #[.int .i64 (n0 : Int), .int .i64 (n1 : Int), .int .i64 (c : Int), .int .i64 (n3 : Int), .int .i64 (n4 : Int)] 3)).cell? ⟨w1.heap.size, k, none⟩ = some (.int .i64 (([(n0 : Int), n1, c, n3, n4]).getD k 0)) := fun k hk => by
    rw [World.cell?_alloc_at _ _ _ _ rfl]
    match k, hk with
    | 0, _ => rfl
    | 1, _ => rfl
    | 2, _ => rfl
    | 3, _ => rfl
    | 4, _ => rfl
  have hq1 : w1.heap.size < (w1.alloc (.cells #[.int .i64 (n0 : Int), .int .i64 (n1 : Int), .int .i64 (c : Int), .int .i64 (n3 : Int), .int .i64 (n4 : Int)] 3)).heap.size := by simp
  have hbI := bb_step hb1 hal
  generalize hA : w1.alloc (.cells #[.int .i64 (n0 : Int), .int .i64 (n1 : Int), .int .i64 (c : Int), .int .i64 (n3 : Int), .int .i64 (n4 : Int)] 3) = wI at *
  have kc := Lib.run_convert_bytes_const (P := Tryd.prog) wI 23 5 #[.int .u8 97, .int .u8 105, .int .u8 103] 3 3 Tryd.underlying23 Tryd.underlying5
  have hbk : Below wI.heap.size wI (wI.alloc (.cells #[.int .u8 97, .int .u8 105, .int .u8 103] 5 (3, 4))) := (Below.refl _ _).alloc (Nat.le_refl _) _
  have hsk : wI.heap.size < (wI.alloc (.cells #[.int .u8 97, .int .u8 105, .int .u8 103] 5 (3, 4))).heap.size := by simp
  have hce : ∀ j v, (([97, 105, 103] : List Int).map (Value.int .u8))[j]? = some v → (wI.alloc (.cells #[.int .u8 97, .int .u8 105, .int .u8 103] 5 (3, 4))).cell? ⟨wI.heap.size, j, none⟩ = some v := fun j v hj => by
    rw [World.cell?_alloc_mark]
    simpa using hj
  have hbK := bb_step hbI hbk
  have HWI := Lib.hid (And.intro hcl (And.intro hq1 (And.intro hbk hbK)))
  clear hal hcl hq1 hbI hb1 HF
  go_wp2_with (first
    | (go_at_call_of 19 (Value.int IntKind.i64 m); refine (N0.out _).mono ?_; rintro e w' ⟨rfl, rfl⟩)
    | (go_at_call_of 19 (Value.int IntKind.i64 i); refine (N1.out _).mono ?_; rintro e w' ⟨rfl, rfl⟩)
    | (go_at_call_of 19 (Value.int IntKind.i64 l); refine (N2.out _).mono ?_; rintro e w' ⟨rfl, rfl⟩)
    | (go_at_call_of 19 (Value.int IntKind.i64 o); refine (N3.out _).mono ?_; rintro e w' ⟨rfl, rfl⟩)
    | (go_at_call_of 19 (Value.int IntKind.i64 a); refine (N4.out _).mono ?_; rintro e w' ⟨rfl, rfl⟩))
  have HCE := Lib.hid hce
  clear hce kc hbk hbK
  generalize hK : wI.alloc (.cells #[.int .u8 97, .int .u8 105, .int .u8 103] 5 (3, 4)) = wK at *
  clear hA hK
  obtain ⟨ns, hns⟩ : ∃ ns : List Int, [(n0 : Int), n1, c, n3, n4] = ns := ⟨_, rfl⟩
  rw [hns] at HWI
  have HL5 : Hid (ns.length = 5) := by unfold Hid; rw [← hns]; rfl
  have HHT : Hid (hdk ns 5 ++ [10] ++ reps [48, 10] n3 ++ reps [2, 0] n4 = headsT n0 n1 c n3 n4) := by unfold Hid; rw [← hns]; rfl
  have HH5 : Hid ((hdk ns 5 ++ [10]).length ≤ 20) := by unfold Hid; rw [← hns]; simp [hdk]
  have HB9 : Hid (∀ k, k < 5 → 0 ≤ ns.getD k 0 ∧ ns.getD k 0 ≤ 9) := fun k hk => by
    rw [← hns]
    match k, hk with
    | 0, _ => exact ⟨by show (0 : Int) ≤ (n0 : Int); omega, by show (n0 : Int) ≤ 9; omega⟩
    | 1, _ => exact ⟨by show (0 : Int) ≤ (n1 : Int); omega, by show (n1 : Int) ≤ 9; omega⟩
    | 2, _ => exact ⟨by show (0 : Int) ≤ (c : Int); omega, by show (c : Int) ≤ 9; omega⟩
    | 3, _ => exact ⟨by show (0 : Int) ≤ (n3 : Int); omega, by show (n3 : Int) ≤ 9; omega⟩
    | 4, _ => exact ⟨by show (0 : Int) ≤ (n4 : Int); omega, by show (n4 : Int) ≤ 9; omega⟩
  have HNS : Hid (∀ W, Below wK.heap.size wK W → ∀ k, k < 5 → W.cell? ⟨w1.heap.size, k, none⟩ = some (.int .i64 (ns.getD k 0))) := fun W hW k hk => by
    obtain ⟨p1, p2, p3, p4⟩ := HWI.out
    rw [(p3.trans (hW.mono p3.size)).cell (p := ⟨w1.heap.size, k, none⟩) p2]
    exact p1 k hk
  have HG5 : Hid (∀ W, Below wK.heap.size wK W → W.cell? ⟨w1.heap.size, 0, none⟩ = some (.int .i64 (n0 : Int)) ∧ W.cell? ⟨w1.heap.size, 1, none⟩ = some (.int .i64 (n1 : Int)) ∧ W.cell? ⟨w1.heap.size, 2, none⟩ = some (.int .i64 (c : Int)) ∧ W.cell? ⟨w1.heap.size, 3, none⟩ = some (.int .i64 (n3 : Int)) ∧ W.cell? ⟨w1.heap.size, 4, none⟩ = some (.int .i64 (n4 : Int))) := fun W hW => by
    have := HNS.out W hW
    rw [← hns] at this
    exact ⟨this 0 (by omega), this 1 (by omega), this 2 (by omega), this 3 (by omega), this 4 (by omega)⟩
  have HBW : Hid (∀ W, Below wK.heap.size wK W → Below w.heap.size w W) := fun W hW => bb_step HWI.out.2.2.2 hW
  have HCK : Hid (∀ W, Below wK.heap.size wK W → ∀ j v, (([97, 105, 103] : List Int).map (Value.int .u8))[j]? = some v → W.cell? ⟨wI.heap.size, j, none⟩ = some v) := fun W hW j v hj => by
    rw [hW.cell (p := ⟨wI.heap.size, j, none⟩) hsk]
    exact HCE.out j v hj
  clear HWI HCE hns N0 N1 N2 N3 N4 hq
  go_loopw [13, 14] (fun bv iv wr => ∃ k : Nat, k ≤ 5 ∧ iv = .int .i64 (k : Int) ∧ Hid (Below wK.heap.size wK wr ∧ ((k = 0 ∧ bv = .slice (some ⟨wI.heap.size, 0, none⟩) 3 3) ∨ (0 < k ∧ wr.ownsRow wK.heap.size 5 1 bv (hdk ns k).length ((hdk ns k).map (Value.int .u8)))))) (fun _ iv _ => 5 - (intOf iv).toNat)
  case atStart => exact ⟨0, Nat.zero_le _, rfl, Below.refl _ _, .inl ⟨rfl, rfl⟩⟩
  case round =>
    obtain ⟨k, hk, rfl, HH⟩ := hrel
    obtain ⟨hbr, hv⟩ := HH.out
    clear HH
    have hsr : wK.heap.size ≤ wr.heap.size := hbr.size
    by_cases hlt : k < 5
    · have g := HNS.out wr hbr k hlt
      obtain ⟨x0, x9⟩ := HB9.out k hlt
      have HS1 := Lib.hid (hdk_succ ns k (by rw [HL5.out]; exact hlt))
      have HLK : Hid ((hdk ns k).length ≤ 1000) := by
        unfold Hid hdk
        rw [List.length_append, List.length_flatMap]
        have : ((ns.take k).map fun _ => 2).sum ≤ 100 := by rw [List.map_const', List.sum_replicate_nat]; have := HL5.out; rw [List.length_take]; omega
        simp at this ⊢
        omega
      generalize ns.getD k 0 = x at *
      have hwx : IntKind.u8.wrap (48 + x) = 48 + x := IntWalk.u8_in _ (by omega)
      rcases hv with ⟨hk0, rfl⟩ | ⟨hk0, hown⟩
      · have HZ := Lib.hid (HCK.out wr hbr)
        have hgl : wI.heap.size < wr.heap.size := by omega
        have HBR := Lib.hid hbr
        have HK0 := Lib.hid hk0
        clear hbr hk0
        go_wp2_with (at_builtin; refine wpList_const2 rfl _ _ rfl wr wI.heap.size 3 [97, 105, 103] rfl (by omega) hgl HZ.out 32 (48 + x) ?_ rfl ?_; rfl; intro v2 w2 hown2 hb2; have HO2 := Lib.hid (own_base hown2 hsr); have HB2 := Lib.hid (bb_step HBR.out hb2); obtain ⟨a2, c2, rfl, _, _⟩ := own_shape hown2; clear hown2 hb2)
        go_roundw
        case rel => exact ⟨k + 1, by omega, by go_num, HB2.out, .inr ⟨by omega, by rw [HS1.out, HK0.out, hdk_0]; exact HO2.out⟩⟩
        case measure => simp [intOf]; omega
      · have HBR := Lib.hid hbr
        obtain ⟨ab, kb, cb, rfl, HK, HO⟩ := bopen hown
        have hkb : kb ≤ 100000 := by rw [HK.out]; have := HLK.out; omega
        clear hbr hown
        go_wp2_with (at_builtin; refine wpList_app2 rfl _ _ rfl wr wK.heap.size _ kb (hdk ns k) 32 (48 + x) HO.out hsr hkb ?_ rfl ?_; rfl; intro v2 w2 hown2 hb2; have HB2 := Lib.hid (HBR.out.trans hb2); obtain ⟨a2, k2, c2, rfl, HK2, HO2⟩ := bopen hown2; clear hown2 hb2)
        go_roundw
        case rel => exact ⟨k + 1, by omega, by go_num, HB2.out, .inr ⟨by omega, by rw [HS1.out, ← HK2.out]; exact HO2.out⟩⟩
        case measure => simp [intOf]; omega
    · have hk5 : k = 5 := by omega
      subst hk5
      obtain ⟨_, hown⟩ := hv.resolve_left (by rintro ⟨h, _⟩; omega)
      obtain ⟨ab, kb, cb, rfl, HK, HO⟩ := bopen hown
      have hkb : kb < 100000 := by
        rw [HK.out]
        have := HH5.out
        rw [List.length_append] at this
        simp only [List.length_cons, List.length_nil] at this
        omega
      have HBR := Lib.hid hbr
      clear hbr hown hv hlt hk HNS HB9 HL5 HCK
      go_wp2_with (at_builtin; refine wpList_app1G (Value.int .u8) 23 5 (.int .u8 0) 1 Tryd.underlying23 infoU8 rfl (by decide) rfl _ _ rfl wr wK.heap.size _ kb (hdk ns 5) 10 rfl HO.out hsr (by omega) ?_ rfl ?_; rfl; intro v2 w2 hown2 hap2; have HB2 := Lib.hid (HBR.out.trans hap2.below); obtain ⟨a2, k2, c2, rfl, HK2, HO2⟩ := bopen hown2; clear hown2 hap2)
      have HH2 : Hid ((hdk ns 5 ++ [10]).length ≤ 20) := HH5.out
      clear HK HO HBR hkb HH5
      generalize hdk ns 5 ++ [10] = hd at *
      go_loopw [13, 15] (fun bv iv wr => ∃ k : Nat, k ≤ n3 ∧ iv = .int .i64 (k : Int) ∧ Hid (wr.ownsRow wK.heap.size 5 1 bv (hd ++ reps [48, 10] k).length ((hd ++ reps [48, 10] k).map (Value.int .u8)) ∧ Below wK.heap.size wK wr)) (fun _ iv _ => n3 - (intOf iv).toNat)
      case atStart => exact ⟨0, Nat.zero_le _, rfl, by rw [reps, List.append_nil, ← HK2.out]; exact HO2.out, HB2.out⟩
      case round =>
        obtain ⟨k, hk, rfl, HH⟩ := hrel
        obtain ⟨hown, hbr⟩ := HH.out
        clear HH HO2 HK2 HB2
        have hsr2 : wK.heap.size ≤ wr.heap.size := hbr.size
        obtain ⟨g0, g1, g2, g3, g4⟩ := HG5.out wr hbr
        have HBR := Lib.hid hbr
        obtain ⟨ab, kb, cb, rfl, HK, HO⟩ := bopen hown
        have HLK : Hid ((hd ++ reps [48, 10] k).length ≤ 100) := by unfold Hid; rw [List.length_append, reps_len]; have := HH2.out; simp only [List.length_cons, List.length_nil]; omega
        have hkb : kb ≤ 100 := by rw [HK.out]; exact HLK.out
        clear hbr hown g0 g1 g2
        by_cases hlt : k < n3
        · clear g4
          have HS1 : Hid (hd ++ reps [48, 10] (k + 1) = hd ++ reps [48, 10] k ++ [48, 10]) := by unfold Hid; rw [reps, List.append_assoc]
          generalize hd ++ reps [48, 10] k = hx at *
          go_wp2_with (at_builtin; refine wpList_appStr rfl _ _ rfl wr wK.heap.size _ kb hx [48, 10] (by intro x hx; simp at hx; omega) HO.out hsr2 (by simp; omega) ?_ rfl ?_; rfl; intro v3 w3 hown3 hb3; have HB3 := Lib.hid (HBR.out.trans hb3); obtain ⟨a3, k3, c3, rfl, HK3, HO3⟩ := bopen hown3; clear hown3 hb3)
          go_roundw
          case rel => exact ⟨k + 1, by omega, by go_num, by rw [HS1.out, ← HK3.out]; exact HO3.out, HB3.out⟩
          case measure => simp [intOf]; omega
        · have hk3 : k = n3 := by omega
          subst hk3
          clear hlt hk
          go_wp2_with fail
          clear g3 g4
          generalize hd ++ reps [48, 10] k = hx at *
          go_loopw [13, 16] (fun bv iv wr => ∃ j : Nat, j ≤ n4 ∧ iv = .int .i64 (j : Int) ∧ Hid (wr.ownsRow wK.heap.size 5 1 bv (hx ++ reps [2, 0] j).length ((hx ++ reps [2, 0] j).map (Value.int .u8)) ∧ Below wK.heap.size wK wr)) (fun _ iv _ => n4 - (intOf iv).toNat)
          case atStart => exact ⟨0, Nat.zero_le _, rfl, by rw [reps, List.append_nil, ← HK.out]; exact HO.out, HBR.out⟩
          case round =>
            obtain ⟨j, hj, rfl, HH⟩ := hrel
            obtain ⟨hown, hbr⟩ := HH.out
            clear HH HO HK HBR
            have hsr3 : wK.heap.size ≤ wr.heap.size := hbr.size
            obtain ⟨g0, g1, g2, g3, g4⟩ := HG5.out wr hbr
            have HBR := Lib.hid hbr
            obtain ⟨ab, kb, cb, rfl, HK, HO⟩ := bopen hown
            have HLJ : Hid ((hx ++ reps [2, 0] j).length ≤ 1000) := by unfold Hid; rw [List.length_append, reps_len]; have := HLK.out; simp only [List.length_cons, List.length_nil]; omega
            have hkb : kb ≤ 100000 := by rw [HK.out]; have := HLJ.out; omega
            clear hbr hown g0 g1 g2 g3
            by_cases hlt : j < n4
            · have HS1 : Hid (hx ++ reps [2, 0] (j + 1) = hx ++ reps [2, 0] j ++ [2, 0]) := by unfold Hid; rw [reps, List.append_assoc]
              generalize hx ++ reps [2, 0] j = hy at *
              go_wp2_with (at_builtin; refine wpList_app2 rfl _ _ rfl wr wK.heap.size _ kb hy 2 0 HO.out hsr3 hkb ?_ rfl ?_; rfl; intro v3 w3 hown3 hb3; have HB3 := Lib.hid (HBR.out.trans hb3); obtain ⟨a3, k3, c3, rfl, HK3, HO3⟩ := bopen hown3; clear hown3 hb3)
              go_roundw
              case rel => exact ⟨j + 1, by omega, by go_num, by rw [HS1.out, ← HK3.out]; exact HO3.out, HB3.out⟩
              case measure => simp [intOf]; omega
            · have hj4 : j = n4 := by omega
              subst hj4
              clear hlt hj
              rw [HHT.out] at HK HO HLJ
              clear HHT HLK HH2
              have HBT := Lib.hid (headsT_bts (a := n0) (b := n1) (c := c) (d := k) (e := j) (by omega) (by omega) (by omega) (by omega) (by omega))
              have HTL := Lib.hid (headsT_len (a := n0) (b := n1) (c := c) (d := k) (e := j) (by omega) (by omega))
              have HRG := Lib.hid (fun hg => readG_good n0 n1 c k j (by omega) (by omega) (by omega) (by omega) (by omega) hg)
              have HRB := Lib.hid (fun hg => readG_wrong n0 n1 c k j (by omega) (by omega) (by omega) (by omega) (by omega) hg)
              generalize headsT n0 n1 c k j = T at *
              have HRT := Lib.hid (greadA_any A _ T wr (HSN.out _ (HBW.out _ HBR.out)) (own_rowG (d := (0 : Int)) HO.out) HBT.out (by have := HTL.out; omega))
              clear HK HO HLJ HBT HTL
              by_cases hg : n0 = n1 + j ∧ c = 0
              · have HRD := Lib.hid (read_got HRT.out (HRG.out hg))
                obtain ⟨hg1, hg2⟩ := hg
                clear HRT HRG HRB
                go_wp2_with fail
                refine HRD.out.mono ?_
                rintro e w5 ⟨⟨u5, v5, rfl, hu5, hv5⟩, hb5⟩
                have hx := Cq.new (n := (n1 : Int)) 27 hu5 hv5
                obtain ⟨au5, cu5, e5, _⟩ := hu5
                obtain ⟨av5, cv5, f5, _⟩ := hv5
                rw [gz_len] at e5
                rw [List.length_replicate] at f5
                subst e5 f5
                have hal : Below w5.heap.size w5 (w5.alloc (.cells #[.int .i64 (n1 : Int), .slice au5 j cu5, .slice av5 k cv5] 27)) := (Below.refl _ w5).alloc (Nat.le_refl _) _
                have hbC := bb_step (bb_step HBR.out hb5) hal
                generalize hA : w5.alloc (.cells #[.int .i64 (n1 : Int), .slice au5 j cu5, .slice av5 k cv5] 27) = wC at *
                have HX := Lib.hid hx
                have HBC := Lib.hid hbC
                obtain ⟨g0, g1, g2, g3, g4⟩ := HG5.out wC hbC
                have hsum : IntKind.i64.wrap ((n1 : Int) + (j : Int)) = (n1 : Int) + (j : Int) := IntWalk.i64_in _ (by omega)
                have hd1 : ((n0 : Int) == (n1 : Int) + (j : Int)) = true := beq_iff_eq.2 (by omega)
                have hd2 : ((c : Int) == 0) = true := beq_iff_eq.2 (by omega)
                clear hal hbC hx hb5 g3 HRD hg1 hg2
                unfold circV
                go_wp2_with fail
                go_quiet (fail)
                clear hA g0 g1 g2 g4
                have HBq := Lib.hid (below_drewN HBC.out nq)
                have HCq := Lib.hid (below_drewN (Below.refl wC.heap.size wC) nq)
                generalize wC.drewN nq = wq at *
                have kc := Lib.run_convert_bytes_const (P := Tryd.prog) wq 23 5 #[.int .u8 97, .int .u8 105, .int .u8 103, .int .u8 32, .int .u8 56, .int .u8 48, .int .u8 48, .int .u8 49, .int .u8 32, .int .u8 56, .int .u8 48, .int .u8 48, .int .u8 49, .int .u8 32, .int .u8 48, .int .u8 32, .int .u8 48, .int .u8 32, .int .u8 48, .int .u8 10] 20 20 Tryd.underlying23 Tryd.underlying5
                have hbk : Below wq.heap.size wq (wq.alloc (.cells #[.int .u8 97, .int .u8 105, .int .u8 103, .int .u8 32, .int .u8 56, .int .u8 48, .int .u8 48, .int .u8 49, .int .u8 32, .int .u8 56, .int .u8 48, .int .u8 48, .int .u8 49, .int .u8 32, .int .u8 48, .int .u8 32, .int .u8 48, .int .u8 32, .int .u8 48, .int .u8 10] 5 (20, 21))) := (Below.refl _ _).alloc (Nat.le_refl _) _
                have hrk : RowG (Value.int .u8) 0 (wq.alloc (.cells #[.int .u8 97, .int .u8 105, .int .u8 103, .int .u8 32, .int .u8 56, .int .u8 48, .int .u8 48, .int .u8 49, .int .u8 32, .int .u8 56, .int .u8 48, .int .u8 48, .int .u8 49, .int .u8 32, .int .u8 48, .int .u8 32, .int .u8 48, .int .u8 32, .int .u8 48, .int .u8 10] 5 (20, 21))) (.slice (some ⟨wq.heap.size, 0, none⟩) 20 20) bigA := row_newB wq bigA (20, 21) (by decide)
                have HRK := Lib.hid (read_badH (greadA_any A _ bigA _ (HSN.out _ (HBW.out _ (bb_step HBq.out hbk))) hrk (by intro x hx; revert x; decide) (by decide)) readG_bigA)
                have HBK6 := Lib.hid (bb_step HBq.out hbk)
                have HKK := Lib.hid hbk
                clear hbk hrk
                go_wp2_with fail
                clear kc
                refine HRK.out.mono ?_
                rintro e w6a ⟨⟨x6, y6, z6, t6, ev6, rfl, hO⟩, hbr⟩
                have he := hO.err (HSN.out _ (HBW.out _ (bb_step HBK6.out hbr)))
                have hal : Below w6a.heap.size w6a (w6a.alloc (.cells #[.int .i64 0, .slice x6 0 y6, .slice z6 0 t6] 27)) := (Below.refl _ w6a).alloc (Nat.le_refl _) _
                have hbe := bb_step (bb_step HBK6.out hbr) hal
                have hfr := bb_step (bb_step HKK.out hbr) hal
                have he2 := he.keep hal
                generalize hA : w6a.alloc (.cells #[.int .i64 0, .slice x6 0 y6, .slice z6 0 t6] 27) = w6 at *
                have HE6 := Lib.hid he2
                have HB6 := Lib.hid hbe
                have HF6 := Lib.hid hfr
                clear hal he he2 hbe hfr hbr hO HRK HBK6 HKK
                unfold circV
                have kc := Lib.run_convert_bytes_const (P := Tryd.prog) w6 23 5 #[.int .u8 97, .int .u8 105, .int .u8 103, .int .u8 32, .int .u8 57, .int .u8 48, .int .u8 48, .int .u8 48, .int .u8 32, .int .u8 52, .int .u8 53, .int .u8 48, .int .u8 48, .int .u8 32, .int .u8 48, .int .u8 32, .int .u8 48, .int .u8 32, .int .u8 52, .int .u8 53, .int .u8 48, .int .u8 48, .int .u8 10] 23 23 Tryd.underlying23 Tryd.underlying5
                have hbk : Below w6.heap.size w6 (w6.alloc (.cells #[.int .u8 97, .int .u8 105, .int .u8 103, .int .u8 32, .int .u8 57, .int .u8 48, .int .u8 48, .int .u8 48, .int .u8 32, .int .u8 52, .int .u8 53, .int .u8 48, .int .u8 48, .int .u8 32, .int .u8 48, .int .u8 32, .int .u8 48, .int .u8 32, .int .u8 52, .int .u8 53, .int .u8 48, .int .u8 48, .int .u8 10] 5 (23, 24))) := (Below.refl _ _).alloc (Nat.le_refl _) _
                have hrk : RowG (Value.int .u8) 0 (w6.alloc (.cells #[.int .u8 97, .int .u8 105, .int .u8 103, .int .u8 32, .int .u8 57, .int .u8 48, .int .u8 48, .int .u8 48, .int .u8 32, .int .u8 52, .int .u8 53, .int .u8 48, .int .u8 48, .int .u8 32, .int .u8 48, .int .u8 32, .int .u8 48, .int .u8 32, .int .u8 52, .int .u8 53, .int .u8 48, .int .u8 48, .int .u8 10] 5 (23, 24))) (.slice (some ⟨w6.heap.size, 0, none⟩) 23 23) bigB := row_newB w6 bigB (23, 24) (by decide)
                have HRK := Lib.hid (read_badH (greadA_any A _ bigB _ (HSN.out _ (HBW.out _ (bb_step HB6.out hbk))) hrk (by intro x hx; revert x; decide) (by decide)) readG_bigB)
                have HBK7 := Lib.hid (bb_step HB6.out hbk)
                have HKK := Lib.hid hbk
                clear hbk hrk
                go_wp2_with fail
                clear kc
                refine HRK.out.mono ?_
                rintro e w7a ⟨⟨x7, y7, z7, t7, ev7, rfl, hO⟩, hbr⟩
                have he := hO.err (HSN.out _ (HBW.out _ (bb_step HBK7.out hbr)))
                have hal : Below w7a.heap.size w7a (w7a.alloc (.cells #[.int .i64 0, .slice x7 0 y7, .slice z7 0 t7] 27)) := (Below.refl _ w7a).alloc (Nat.le_refl _) _
                have hbe := bb_step (bb_step HBK7.out hbr) hal
                have hfr := bb_step (bb_step HKK.out hbr) hal
                have he2 := he.keep hal
                generalize hA : w7a.alloc (.cells #[.int .i64 0, .slice x7 0 y7, .slice z7 0 t7] 27) = w7 at *
                have HE7 := Lib.hid he2
                have HB7 := Lib.hid hbe
                have HF7 := Lib.hid hfr
                clear hal he he2 hbe hfr hbr hO HRK HBK7 HKK
                unfold circV
                have HE6' := Lib.hid (HE6.out.keep HF7.out)
                clear HE6
                go_wp2_with fail
                clear hA
                refine (placed_any 102 0 w7 (by omega)).mono ?_
                rintro e w8 ⟨rfl, hb8⟩
                have HB8 := Lib.hid hb8
                clear hb8
                go_wp2_with fail
                refine (see_yes ev6 102 true 0 w8 (HE6'.out.keep HB8.out)).mono ?_
                rintro e w9 ⟨rfl, hb9⟩
                have HB9 := Lib.hid (bb_step HB8.out hb9)
                clear hb9
                go_wp2_with fail
                refine (placed_any 102 0 w9 (by omega)).mono ?_
                rintro e w10 ⟨rfl, hb10⟩
                have HB10 := Lib.hid (bb_step HB9.out hb10)
                clear hb10
                go_wp2_with fail
                refine (see_yes ev7 102 true 0 w10 (HE7.out.keep HB10.out)).mono ?_
                rintro e w11 ⟨rfl, hb11⟩
                have HB11 := Lib.hid (bb_step HB10.out hb11)
                have HC11 := Lib.hid (bb_step (bb_step (bb_step HCq.out HF6.out) HF7.out) HB11.out)
                have HW11 := Lib.hid (bb_step HB7.out HB11.out)
                clear hb11
                obtain ⟨g0, g1, g2, g3, g4⟩ := HG5.out w11 HW11.out
                obtain ⟨q0, q1, q2, _, _, q3⟩ := HX.out.keep HC11.out
                have hs1 : ((n1 : Int) == (n1 : Int)) = true := beq_self_eq_true _
                have hs2 : ((j : Int) == (j : Int)) = true := beq_self_eq_true _
                have hs3 : ((k : Int) == (k : Int)) = true := beq_self_eq_true _
                have HNR := Lib.hid (fun W => near_any (.slice none 0 0) [] W (Row.nil W))
                go_wp2_with fail
                go_quiet ((go_at_call 20; refine (HNR.out _).mono ?_; rintro e w' ⟨rfl, rfl⟩; exact ⟨rfl, _, rfl⟩))
                go_wp2_with fail
                go_ret
                exact ⟨rfl, HBW.out _ (below_drewN HW11.out _)⟩
              · by_cases hn : n0 = n1 + j
                · have HRD := Lib.hid (read_badH HRT.out (HRB.out hg))
                  clear HRT HRG HRB
                  go_wp2_with fail
                  refine HRD.out.mono ?_
                  rintro e w5 ⟨⟨x5, y5, z5, t5, ev5, rfl, hO5⟩, hb5⟩
                  have he5 := hO5.err (HSN.out _ (HBW.out _ (bb_step HBR.out hb5)))
                  have hal : Below w5.heap.size w5 (w5.alloc (.cells #[.int .i64 0, .slice x5 0 y5, .slice z5 0 t5] 27)) := (Below.refl _ w5).alloc (Nat.le_refl _) _
                  have hbC := bb_step (bb_step HBR.out hb5) hal
                  have heC := he5.keep hal
                  generalize hA : w5.alloc (.cells #[.int .i64 0, .slice x5 0 y5, .slice z5 0 t5] 27) = wC at *
                  have HX := Lib.hid heC
                  have HBC := Lib.hid hbC
                  obtain ⟨g0, g1, g2, g3, g4⟩ := HG5.out wC hbC
                  have hsum : IntKind.i64.wrap ((n1 : Int) + (j : Int)) = (n1 : Int) + (j : Int) := IntWalk.i64_in _ (by omega)
                  clear hal hbC heC he5 hO5 hb5 g3 HRD
                  unfold circV
                  have hd1 : ((n0 : Int) == (n1 : Int) + (j : Int)) = true := beq_iff_eq.2 (by omega)
                  have hd2 : ((c : Int) == 0) = false := beq_eq_false_iff_ne.2 (by omega)
                  clear hg hn
                  go_wp2_with fail
                  go_quiet (fail)
                  clear hA g0 g1 g2 g4
                  have HBq := Lib.hid (below_drewN HBC.out nq)
                  have HCq := Lib.hid (below_drewN (Below.refl wC.heap.size wC) nq)
                  generalize wC.drewN nq = wq at *
                  have kc := Lib.run_convert_bytes_const (P := Tryd.prog) wq 23 5 #[.int .u8 97, .int .u8 105, .int .u8 103, .int .u8 32, .int .u8 56, .int .u8 48, .int .u8 48, .int .u8 49, .int .u8 32, .int .u8 56, .int .u8 48, .int .u8 48, .int .u8 49, .int .u8 32, .int .u8 48, .int .u8 32, .int .u8 48, .int .u8 32, .int .u8 48, .int .u8 10] 20 20 Tryd.underlying23 Tryd.underlying5
                  have hbk : Below wq.heap.size wq (wq.alloc (.cells #[.int .u8 97, .int .u8 105, .int .u8 103, .int .u8 32, .int .u8 56, .int .u8 48, .int .u8 48, .int .u8 49, .int .u8 32, .int .u8 56, .int .u8 48, .int .u8 48, .int .u8 49, .int .u8 32, .int .u8 48, .int .u8 32, .int .u8 48, .int .u8 32, .int .u8 48, .int .u8 10] 5 (20, 21))) := (Below.refl _ _).alloc (Nat.le_refl _) _
                  have hrk : RowG (Value.int .u8) 0 (wq.alloc (.cells #[.int .u8 97, .int .u8 105, .int .u8 103, .int .u8 32, .int .u8 56, .int .u8 48, .int .u8 48, .int .u8 49, .int .u8 32, .int .u8 56, .int .u8 48, .int .u8 48, .int .u8 49, .int .u8 32, .int .u8 48, .int .u8 32, .int .u8 48, .int .u8 32, .int .u8 48, .int .u8 10] 5 (20, 21))) (.slice (some ⟨wq.heap.size, 0, none⟩) 20 20) bigA := row_newB wq bigA (20, 21) (by decide)
                  have HRK := Lib.hid (read_badH (greadA_any A _ bigA _ (HSN.out _ (HBW.out _ (bb_step HBq.out hbk))) hrk (by intro x hx; revert x; decide) (by decide)) readG_bigA)
                  have HBK6 := Lib.hid (bb_step HBq.out hbk)
                  have HKK := Lib.hid hbk
                  clear hbk hrk
                  go_wp2_with fail
                  clear kc
                  refine HRK.out.mono ?_
                  rintro e w6a ⟨⟨x6, y6, z6, t6, ev6, rfl, hO⟩, hbr⟩
                  have he := hO.err (HSN.out _ (HBW.out _ (bb_step HBK6.out hbr)))
                  have hal : Below w6a.heap.size w6a (w6a.alloc (.cells #[.int .i64 0, .slice x6 0 y6, .slice z6 0 t6] 27)) := (Below.refl _ w6a).alloc (Nat.le_refl _) _
                  have hbe := bb_step (bb_step HBK6.out hbr) hal
                  have hfr := bb_step (bb_step HKK.out hbr) hal
                  have he2 := he.keep hal
                  generalize hA : w6a.alloc (.cells #[.int .i64 0, .slice x6 0 y6, .slice z6 0 t6] 27) = w6 at *
                  have HE6 := Lib.hid he2
                  have HB6 := Lib.hid hbe
                  have HF6 := Lib.hid hfr
                  clear hal he he2 hbe hfr hbr hO HRK HBK6 HKK
                  unfold circV
                  have kc := Lib.run_convert_bytes_const (P := Tryd.prog) w6 23 5 #[.int .u8 97, .int .u8 105, .int .u8 103, .int .u8 32, .int .u8 57, .int .u8 48, .int .u8 48, .int .u8 48, .int .u8 32, .int .u8 52, .int .u8 53, .int .u8 48, .int .u8 48, .int .u8 32, .int .u8 48, .int .u8 32, .int .u8 48, .int .u8 32, .int .u8 52, .int .u8 53, .int .u8 48, .int .u8 48, .int .u8 10] 23 23 Tryd.underlying23 Tryd.underlying5
                  have hbk : Below w6.heap.size w6 (w6.alloc (.cells #[.int .u8 97, .int .u8 105, .int .u8 103, .int .u8 32, .int .u8 57, .int .u8 48, .int .u8 48, .int .u8 48, .int .u8 32, .int .u8 52, .int .u8 53, .int .u8 48, .int .u8 48, .int .u8 32, .int .u8 48, .int .u8 32, .int .u8 48, .int .u8 32, .int .u8 52, .int .u8 53, .int .u8 48, .int .u8 48, .int .u8 10] 5 (23, 24))) := (Below.refl _ _).alloc (Nat.le_refl _) _
                  have hrk : RowG (Value.int .u8) 0 (w6.alloc (.cells #[.int .u8 97, .int .u8 105, .int .u8 103, .int .u8 32, .int .u8 57, .int .u8 48, .int .u8 48, .int .u8 48, .int .u8 32, .int .u8 52, .int .u8 53, .int .u8 48, .int .u8 48, .int .u8 32, .int .u8 48, .int .u8 32, .int .u8 48, .int .u8 32, .int .u8 52, .int .u8 53, .int .u8 48, .int .u8 48, .int .u8 10] 5 (23, 24))) (.slice (some ⟨w6.heap.size, 0, none⟩) 23 23) bigB := row_newB w6 bigB (23, 24) (by decide)
                  have HRK := Lib.hid (read_badH (greadA_any A _ bigB _ (HSN.out _ (HBW.out _ (bb_step HB6.out hbk))) hrk (by intro x hx; revert x; decide) (by decide)) readG_bigB)
                  have HBK7 := Lib.hid (bb_step HB6.out hbk)
                  have HKK := Lib.hid hbk
                  clear hbk hrk
                  go_wp2_with fail
                  clear kc
                  refine HRK.out.mono ?_
                  rintro e w7a ⟨⟨x7, y7, z7, t7, ev7, rfl, hO⟩, hbr⟩
                  have he := hO.err (HSN.out _ (HBW.out _ (bb_step HBK7.out hbr)))
                  have hal : Below w7a.heap.size w7a (w7a.alloc (.cells #[.int .i64 0, .slice x7 0 y7, .slice z7 0 t7] 27)) := (Below.refl _ w7a).alloc (Nat.le_refl _) _
                  have hbe := bb_step (bb_step HBK7.out hbr) hal
                  have hfr := bb_step (bb_step HKK.out hbr) hal
                  have he2 := he.keep hal
                  generalize hA : w7a.alloc (.cells #[.int .i64 0, .slice x7 0 y7, .slice z7 0 t7] 27) = w7 at *
                  have HE7 := Lib.hid he2
                  have HB7 := Lib.hid hbe
                  have HF7 := Lib.hid hfr
                  clear hal he he2 hbe hfr hbr hO HRK HBK7 HKK
                  unfold circV
                  have HE6' := Lib.hid (HE6.out.keep HF7.out)
                  clear HE6
                  go_wp2_with fail
                  clear hA
                  refine (placed_any 102 0 w7 (by omega)).mono ?_
                  rintro e w8 ⟨rfl, hb8⟩
                  have HB8 := Lib.hid hb8
                  clear hb8
                  go_wp2_with fail
                  refine (see_yes ev6 102 true 0 w8 (HE6'.out.keep HB8.out)).mono ?_
                  rintro e w9 ⟨rfl, hb9⟩
                  have HB9 := Lib.hid (bb_step HB8.out hb9)
                  clear hb9
                  go_wp2_with fail
                  refine (placed_any 102 0 w9 (by omega)).mono ?_
                  rintro e w10 ⟨rfl, hb10⟩
                  have HB10 := Lib.hid (bb_step HB9.out hb10)
                  clear hb10
                  go_wp2_with fail
                  refine (see_yes ev7 102 true 0 w10 (HE7.out.keep HB10.out)).mono ?_
                  rintro e w11 ⟨rfl, hb11⟩
                  have HB11 := Lib.hid (bb_step HB10.out hb11)
                  have HC11 := Lib.hid (bb_step (bb_step (bb_step HCq.out HF6.out) HF7.out) HB11.out)
                  have HW11 := Lib.hid (bb_step HB7.out HB11.out)
                  clear hb11
                  go_wp2_with fail
                  refine (placed_any 101 0 w11 (by omega)).mono ?_
                  rintro e w12 ⟨rfl, hb12⟩
                  have HB12 := Lib.hid (bb_step HC11.out hb12)
                  have HW12 := Lib.hid (bb_step HW11.out hb12)
                  clear hb12
                  go_wp2_with fail
                  refine (see_yes ev5 101 true 0 w12 (HX.out.keep HB12.out)).mono ?_
                  rintro e w13 ⟨rfl, hb13⟩
                  have HW13 := Lib.hid (bb_step HW12.out hb13)
                  clear hb13
                  go_wp2_with fail
                  go_ret
                  exact ⟨rfl, HBW.out _ HW13.out⟩
                · have HRD := Lib.hid (read_badH HRT.out (HRB.out hg))
                  clear HRT HRG HRB
                  go_wp2_with fail
                  refine HRD.out.mono ?_
                  rintro e w5 ⟨⟨x5, y5, z5, t5, ev5, rfl, hO5⟩, hb5⟩
                  have he5 := hO5.err (HSN.out _ (HBW.out _ (bb_step HBR.out hb5)))
                  have hal : Below w5.heap.size w5 (w5.alloc (.cells #[.int .i64 0, .slice x5 0 y5, .slice z5 0 t5] 27)) := (Below.refl _ w5).alloc (Nat.le_refl _) _
                  have hbC := bb_step (bb_step HBR.out hb5) hal
                  have heC := he5.keep hal
                  generalize hA : w5.alloc (.cells #[.int .i64 0, .slice x5 0 y5, .slice z5 0 t5] 27) = wC at *
                  have HX := Lib.hid heC
                  have HBC := Lib.hid hbC
                  obtain ⟨g0, g1, g2, g3, g4⟩ := HG5.out wC hbC
                  have hsum : IntKind.i64.wrap ((n1 : Int) + (j : Int)) = (n1 : Int) + (j : Int) := IntWalk.i64_in _ (by omega)
                  clear hal hbC heC he5 hO5 hb5 g3 HRD
                  unfold circV
                  have hd1 : ((n0 : Int) == (n1 : Int) + (j : Int)) = false := beq_eq_false_iff_ne.2 (by omega)
                  clear hg hn
                  go_wp2_with fail
                  go_quiet (fail)
                  clear hA g0 g1 g2 g4
                  have HBq := Lib.hid (below_drewN HBC.out nq)
                  have HCq := Lib.hid (below_drewN (Below.refl wC.heap.size wC) nq)
                  generalize wC.drewN nq = wq at *
                  have kc := Lib.run_convert_bytes_const (P := Tryd.prog) wq 23 5 #[.int .u8 97, .int .u8 105, .int .u8 103, .int .u8 32, .int .u8 56, .int .u8 48, .int .u8 48, .int .u8 49, .int .u8 32, .int .u8 56, .int .u8 48, .int .u8 48, .int .u8 49, .int .u8 32, .int .u8 48, .int .u8 32, .int .u8 48, .int .u8 32, .int .u8 48, .int .u8 10] 20 20 Tryd.underlying23 Tryd.underlying5
                  have hbk : Below wq.heap.size wq (wq.alloc (.cells #[.int .u8 97, .int .u8 105, .int .u8 103, .int .u8 32, .int .u8 56, .int .u8 48, .int .u8 48, .int .u8 49, .int .u8 32, .int .u8 56, .int .u8 48, .int .u8 48, .int .u8 49, .int .u8 32, .int .u8 48, .int .u8 32, .int .u8 48, .int .u8 32, .int .u8 48, .int .u8 10] 5 (20, 21))) := (Below.refl _ _).alloc (Nat.le_refl _) _
                  have hrk : RowG (Value.int .u8) 0 (wq.alloc (.cells #[.int .u8 97, .int .u8 105, .int .u8 103, .int .u8 32, .int .u8 56, .int .u8 48, .int .u8 48, .int .u8 49, .int .u8 32, .int .u8 56, .int .u8 48, .int .u8 48, .int .u8 49, .int .u8 32, .int .u8 48, .int .u8 32, .int .u8 48, .int .u8 32, .int .u8 48, .int .u8 10] 5 (20, 21))) (.slice (some ⟨wq.heap.size, 0, none⟩) 20 20) bigA := row_newB wq bigA (20, 21) (by decide)
                  have HRK := Lib.hid (read_badH (greadA_any A _ bigA _ (HSN.out _ (HBW.out _ (bb_step HBq.out hbk))) hrk (by intro x hx; revert x; decide) (by decide)) readG_bigA)
                  have HBK6 := Lib.hid (bb_step HBq.out hbk)
                  have HKK := Lib.hid hbk
                  clear hbk hrk
                  go_wp2_with fail
                  clear kc
                  refine HRK.out.mono ?_
                  rintro e w6a ⟨⟨x6, y6, z6, t6, ev6, rfl, hO⟩, hbr⟩
                  have he := hO.err (HSN.out _ (HBW.out _ (bb_step HBK6.out hbr)))
                  have hal : Below w6a.heap.size w6a (w6a.alloc (.cells #[.int .i64 0, .slice x6 0 y6, .slice z6 0 t6] 27)) := (Below.refl _ w6a).alloc (Nat.le_refl _) _
                  have hbe := bb_step (bb_step HBK6.out hbr) hal
                  have hfr := bb_step (bb_step HKK.out hbr) hal
                  have he2 := he.keep hal
                  generalize hA : w6a.alloc (.cells #[.int .i64 0, .slice x6 0 y6, .slice z6 0 t6] 27) = w6 at *
                  have HE6 := Lib.hid he2
                  have HB6 := Lib.hid hbe
                  have HF6 := Lib.hid hfr
                  clear hal he he2 hbe hfr hbr hO HRK HBK6 HKK
                  unfold circV
                  have kc := Lib.run_convert_bytes_const (P := Tryd.prog) w6 23 5 #[.int .u8 97, .int .u8 105, .int .u8 103, .int .u8 32, .int .u8 57, .int .u8 48, .int .u8 48, .int .u8 48, .int .u8 32, .int .u8 52, .int .u8 53, .int .u8 48, .int .u8 48, .int .u8 32, .int .u8 48, .int .u8 32, .int .u8 48, .int .u8 32, .int .u8 52, .int .u8 53, .int .u8 48, .int .u8 48, .int .u8 10] 23 23 Tryd.underlying23 Tryd.underlying5
                  have hbk : Below w6.heap.size w6 (w6.alloc (.cells #[.int .u8 97, .int .u8 105, .int .u8 103, .int .u8 32, .int .u8 57, .int .u8 48, .int .u8 48, .int .u8 48, .int .u8 32, .int .u8 52, .int .u8 53, .int .u8 48, .int .u8 48, .int .u8 32, .int .u8 48, .int .u8 32, .int .u8 48, .int .u8 32, .int .u8 52, .int .u8 53, .int .u8 48, .int .u8 48, .int .u8 10] 5 (23, 24))) := (Below.refl _ _).alloc (Nat.le_refl _) _
                  have hrk : RowG (Value.int .u8) 0 (w6.alloc (.cells #[.int .u8 97, .int .u8 105, .int .u8 103, .int .u8 32, .int .u8 57, .int .u8 48, .int .u8 48, .int .u8 48, .int .u8 32, .int .u8 52, .int .u8 53, .int .u8 48, .int .u8 48, .int .u8 32, .int .u8 48, .int .u8 32, .int .u8 48, .int .u8 32, .int .u8 52, .int .u8 53, .int .u8 48, .int .u8 48, .int .u8 10] 5 (23, 24))) (.slice (some ⟨w6.heap.size, 0, none⟩) 23 23) bigB := row_newB w6 bigB (23, 24) (by decide)
                  have HRK := Lib.hid (read_badH (greadA_any A _ bigB _ (HSN.out _ (HBW.out _ (bb_step HB6.out hbk))) hrk (by intro x hx; revert x; decide) (by decide)) readG_bigB)
                  have HBK7 := Lib.hid (bb_step HB6.out hbk)
                  have HKK := Lib.hid hbk
                  clear hbk hrk
                  go_wp2_with fail
                  clear kc
                  refine HRK.out.mono ?_
                  rintro e w7a ⟨⟨x7, y7, z7, t7, ev7, rfl, hO⟩, hbr⟩
                  have he := hO.err (HSN.out _ (HBW.out _ (bb_step HBK7.out hbr)))
                  have hal : Below w7a.heap.size w7a (w7a.alloc (.cells #[.int .i64 0, .slice x7 0 y7, .slice z7 0 t7] 27)) := (Below.refl _ w7a).alloc (Nat.le_refl _) _
                  have hbe := bb_step (bb_step HBK7.out hbr) hal
                  have hfr := bb_step (bb_step HKK.out hbr) hal
                  have he2 := he.keep hal
                  generalize hA : w7a.alloc (.cells #[.int .i64 0, .slice x7 0 y7, .slice z7 0 t7] 27) = w7 at *
                  have HE7 := Lib.hid he2
                  have HB7 := Lib.hid hbe
                  have HF7 := Lib.hid hfr
                  clear hal he he2 hbe hfr hbr hO HRK HBK7 HKK
                  unfold circV
                  have HE6' := Lib.hid (HE6.out.keep HF7.out)
                  clear HE6
                  go_wp2_with fail
                  clear hA
                  refine (placed_any 102 0 w7 (by omega)).mono ?_
                  rintro e w8 ⟨rfl, hb8⟩
                  have HB8 := Lib.hid hb8
                  clear hb8
                  go_wp2_with fail
                  refine (see_yes ev6 102 true 0 w8 (HE6'.out.keep HB8.out)).mono ?_
                  rintro e w9 ⟨rfl, hb9⟩
                  have HB9 := Lib.hid (bb_step HB8.out hb9)
                  clear hb9
                  go_wp2_with fail
                  refine (placed_any 102 0 w9 (by omega)).mono ?_
                  rintro e w10 ⟨rfl, hb10⟩
                  have HB10 := Lib.hid (bb_step HB9.out hb10)
                  clear hb10
                  go_wp2_with fail
                  refine (see_yes ev7 102 true 0 w10 (HE7.out.keep HB10.out)).mono ?_
                  rintro e w11 ⟨rfl, hb11⟩
                  have HB11 := Lib.hid (bb_step HB10.out hb11)
                  have HC11 := Lib.hid (bb_step (bb_step (bb_step HCq.out HF6.out) HF7.out) HB11.out)
                  have HW11 := Lib.hid (bb_step HB7.out HB11.out)
                  clear hb11
                  go_wp2_with fail
                  refine (placed_any 101 0 w11 (by omega)).mono ?_
                  rintro e w12 ⟨rfl, hb12⟩
                  have HB12 := Lib.hid (bb_step HC11.out hb12)
                  have HW12 := Lib.hid (bb_step HW11.out hb12)
                  clear hb12
                  go_wp2_with fail
                  refine (see_yes ev5 101 true 0 w12 (HX.out.keep HB12.out)).mono ?_
                  rintro e w13 ⟨rfl, hb13⟩
                  have HW13 := Lib.hid (bb_step HW12.out hb13)
                  clear hb13
                  go_wp2_with fail
                  go_ret
                  exact ⟨rfl, HBW.out _ HW13.out⟩
end Go.Proofs.YtfkodpglgeghlaaDoor
