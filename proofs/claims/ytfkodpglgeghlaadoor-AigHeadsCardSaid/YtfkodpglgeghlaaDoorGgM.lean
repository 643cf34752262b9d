/- Contracts of word.Line and skolemref1.Line (both are lnAt), and of bytes.IndexByte. Conditions: the slice reads as bytes, and is not too long. · Plain facts: what a text tells as a circuit in few bytes ('readG'), step by step, and what is amiss first. Nothing of the program. · Plain facts: a circuit's text in few bytes, and that it is read as it was. Nothing of the program. · Plain facts: a circuit's text in few bytes, cut off ahead of its end, is amiss; the text of another form is; the heads that AigHeads asks for. Nothing of the program. -/
import Derived.Test.YtfkodpglgeghlaaDoorBits
import Derived.Laws.Externs
import Derived.Lib.BytesEntry
import Derived.Laws.BytesArg
import Derived.Test.YtfkodpglgeghlaaDoorAgP
import Derived.Test.YtfkodpglgeghlaaDoorAbM2
namespace Go.Proofs.YtfkodpglgeghlaaDoor
open Go.RowKit

/-- The first line's end. -/
def nlAt : List Int → Option Nat
  | [] => none
  | x :: xs => if x = 10 then some 0 else (nlAt xs).map (· + 1)
theorem nlAt_index {xs : List Int} (h : Bts xs) : Lib.indexByte (Lib.bytesOf xs) 10 = match nlAt xs with | some k => (k : Int) | none => -1 := by
  induction xs with
  | nil => rfl
  | cons x xs ih =>
    have hx := h x (by simp)
    have ih' := ih (fun y hy => h y (by simp [hy]))
    show Lib.indexByte (UInt8.ofNat x.toNat :: Lib.bytesOf xs) 10 = _
    unfold Lib.indexByte nlAt
    by_cases e : x = 10
    · subst e; rfl
    · have hne : (UInt8.ofNat x.toNat == 10) = false := by
        simp only [beq_eq_false_iff_ne]
        intro h'
        have := u8_back hx.1 hx.2
        rw [h'] at this
        exact e (by rw [← this]; rfl)
      rw [hne, if_neg e, ih']
      cases nlAt xs with
      | none => rfl
      | some k => simp
theorem nlAt_lt {xs : List Int} {k : Nat} (h : nlAt xs = some k) : k < xs.length ∧ xs.getD k 0 = 10 ∧ ∀ j, j < k → xs.getD j 0 ≠ 10 := by
  induction xs generalizing k with
  | nil => cases h
  | cons x xs ih =>
    unfold nlAt at h
    by_cases e : x = 10
    · rw [if_pos e] at h; injection h with h; subst h; exact ⟨by simp, by simpa using e, fun j hj => by omega⟩
    · rw [if_neg e] at h
      cases h' : nlAt xs with
      | none => rw [h'] at h; cases h
      | some j =>
        rw [h'] at h; injection h with h; subst h
        obtain ⟨h1, h2, h3⟩ := ih h'
        refine ⟨by simp; omega, by simpa using h2, fun i hi => ?_⟩
        cases i with
        | zero => simpa using e
        | succ i => have hi' : i + 1 < j + 1 := hi; simpa using h3 i (by omega)
theorem nlAt_none {xs : List Int} (h : nlAt xs = none) : ∀ j, j < xs.length → xs.getD j 0 ≠ 10 := by
  induction xs with
  | nil => intro j hj; simp at hj
  | cons x xs ih =>
    unfold nlAt at h
    by_cases e : x = 10
    · rw [if_pos e] at h; cases h
    · rw [if_neg e] at h
      have h' : nlAt xs = none := by
        cases h' : nlAt xs with
        | none => rfl
        | some j => rw [h'] at h; cases h
      intro j hj
      cases j with
      | zero => simpa using e
      | succ j => simpa using ih h' j (by simpa using hj)
theorem nlAt_is {xs : List Int} {k : Nat} (h1 : k < xs.length) (h2 : xs.getD k 0 = 10) (h3 : ∀ j, j < k → xs.getD j 0 ≠ 10) : nlAt xs = some k := by
  cases h : nlAt xs with
  | none => exact absurd h2 (nlAt_none h k h1)
  | some j =>
    obtain ⟨a, b, c⟩ := nlAt_lt h
    rcases Nat.lt_trichotomy j k with e | e | e
    · exact absurd b (h3 j e)
    · rw [e]
    · exact absurd h2 (c k e)
theorem nlAt_not {xs : List Int} (h : ∀ j, j < xs.length → xs.getD j 0 ≠ 10) : nlAt xs = none := by
  cases h' : nlAt xs with
  | none => rfl
  | some j => obtain ⟨a, b, _⟩ := nlAt_lt h'; exact absurd b (h j a)
theorem getD_dropI (xs : List Int) (f j : Nat) : (xs.drop f).getD j 0 = xs.getD (f + j) 0 := by simp [List.getD]

/-- The line from f on. -/
def lnAt (xs : List Int) (f : Int) : Option (List Int × Nat) :=
  if 0 ≤ f ∧ f < xs.length then (nlAt (xs.drop f.toNat)).map fun k => ((xs.drop f.toNat).take k, f.toNat + k + 1) else none
def lnV : Option (List Int × Nat) → Value
  | none => .tuple #[.string ⟨#[]⟩, .int .i64 0, .bool false]
  | some (s, n) => .tuple #[.string (strOfNums s), .int .i64 n, .bool true]

set_option maxRecDepth 8000 in
theorem indexByte_any (b o n c : Nat) (xs : List Int) (w : World) (hb : Bts xs) (hx : xs.length = n) (hc : ∀ i, i < n → w.cell? ⟨b, o + i, none⟩ = some (.int .u8 (xs.getD i 0))) :
    Calls Tryd.prog 82 #[.slice (some ⟨b, o, none⟩) n c, .int .u8 10] w fun e w' => e = .returned (.int .i64 (match nlAt xs with | some k => (k : Int) | none => -1)) ∧ w = w' := by
  have HI := Lib.hid (nlAt_index hb)
  have HR := Lib.hid (Lib.run_indexByteSlice (P := Tryd.prog) w b o n c xs hx hc 10)
  clear hc hx hb
  generalize (match nlAt xs with | some k => (k : Int) | none => -1) = r at *
  go_enter Tryd.func82, Tryd.ntmps82
  go_wp2
  rw [run_callFunc_extern Tryd.func87 (by kernel_rfl) (by kernel_rfl) (by kernel_rfl) (e := Extern.BytealgIndexByte.indexByte) (by kernel_rfl), HR.out]
  simp only [Result.andThen]
  rw [Oper.upon_value]
  go_wp2
  go_ret
  exact ⟨ret_int (by rw [← HI.out]), rfl⟩

theorem lnAt_out {xs : List Int} {f : Int} (h : f < 0 ∨ (xs.length : Int) ≤ f) : lnAt xs f = none := by
  unfold lnAt; rw [if_neg (by omega)]
theorem lnAt_in {xs : List Int} {f : Nat} (h : f < xs.length) : lnAt xs (f : Int) = (nlAt (xs.drop f)).map fun k => ((xs.drop f).take k, f + k + 1) := by
  unfold lnAt; rw [if_pos (by omega)]; rfl

set_option maxRecDepth 4000 in
set_option maxHeartbeats 1000000 in
theorem line_any (v : Value) (xs : List Int) (f : Int) (w : World) (hv : RowG (Value.int .u8) 0 w v xs) (hb : Bts xs) (hn : xs.length ≤ 4000000) :
    Calls Tryd.prog 64 #[v, .int .i64 f] w fun e w' => e = .returned (lnV (lnAt xs f)) ∧ w = w' := by
  obtain ⟨a, c, rfl, hxc, hcm, hx⟩ := hv
  unfold maxLen at hcm
  by_cases hneg : f < 0
  · have HR := Lib.hid (lnAt_out (xs := xs) (.inl hneg))
    generalize xs.length = n at *
    clear hx
    go_enter Tryd.func64, Tryd.ntmps64
    go_wp2_with fail
    (try simp only [Exit.inBlock, Exit.then]); refine bodyPost_ret (results_tmp3 rfl _ _ _) rfl ?_
    exact ⟨by rw [HR.out]; rfl, rfl⟩
  · obtain ⟨g, rfl⟩ : ∃ g : Nat, f = g := ⟨f.toNat, by omega⟩
    clear hneg
    by_cases hge : xs.length ≤ g
    · have HR := Lib.hid (lnAt_out (xs := xs) (f := g) (.inr (by omega)))
      generalize xs.length = n at *
      clear hx
      go_enter Tryd.func64, Tryd.ntmps64
      go_wp2_with fail
      (try simp only [Exit.inBlock, Exit.then]); refine bodyPost_ret (results_tmp3 rfl _ _ _) rfl ?_
      exact ⟨by rw [HR.out]; rfl, rfl⟩
    · obtain ⟨b, off, rfl, hbl, hx⟩ := hx.resolve_left (by omega)
      have hck : ¬ c = g := by omega
      have HR := Lib.hid (lnAt_in (xs := xs) (f := g) (by omega))
      have HI := Lib.hid (indexByte_any b (off + g) (xs.length - g) (c - g) (xs.drop g) w (hb.drop g) (by simp) (fun i hi => by rw [Nat.add_assoc, getD_dropI]; exact hx (g + i) (by omega)))
      have HCV := Lib.hid (fun (k : Nat) (hk : k ≤ xs.length - g) => run_convert_bytes_arg (P := Tryd.prog) w 23 5 Tryd.underlying23 Tryd.underlying5 b (off + g) k (c - g) ((xs.drop g).take k) (by simp; omega) (fun i hi => by rw [Nat.add_assoc, hx (g + i) (by omega)]; simp [List.getD, hi]) 9 Tryd.underlying9)
      clear hx
      cases hnl : nlAt (xs.drop g) with
      | none =>
        rw [hnl] at HR HI
        clear HCV hnl
        generalize xs.length = n at *
        go_enter Tryd.func64, Tryd.ntmps64
        go_wp2_with (go_at_call 82; refine HI.out.mono ?_; rintro e w' ⟨rfl, rfl⟩)
        (try simp only [Exit.inBlock, Exit.then]); refine bodyPost_ret (results_tmp3 rfl _ _ _) rfl ?_
        exact ⟨by rw [HR.out]; rfl, rfl⟩
      | some k =>
        have hk := (nlAt_lt hnl).1
        rw [hnl] at HR HI
        have hk' : k < xs.length - g := by simpa using hk
        have HCK := Lib.hid (HCV.out k (by omega))
        clear HCV hnl hk
        generalize xs.length = n at *
        have hc1 := HCK.out
        go_enter Tryd.func64, Tryd.ntmps64
        go_wp2_with (go_at_call 82; refine HI.out.mono ?_; rintro e w' ⟨rfl, rfl⟩)
        (try simp only [Exit.inBlock, Exit.then]); refine bodyPost_ret (results_tmp3 rfl _ _ _) rfl ?_
        exact ⟨by rw [HR.out]; rfl, rfl⟩

end Go.Proofs.YtfkodpglgeghlaaDoor

namespace Go.Proofs.YtfkodpglgeghlaaDoor

/-- A number of few bytes: the one that begins here, and how many bytes it has. -/
def unpL (i : Nat) (n : Int) : List Int → Option (Int × Nat)
  | [] => none
  | x :: xs => if 5 ≤ i then none else if x < 128 then some (n + x % 128 * 2 ^ (7 * i), i + 1) else unpL (i + 1) (n + x % 128 * 2 ^ (7 * i)) xs
def unpG (xs : List Int) : Option (Int × Nat) := unpL 0 0 xs
/-- What a step tells: the place of what is amiss, or what was read and where the rest begins. -/
inductive Rg (α : Type) | bad (pos : Nat) | got (x : α) (pos : Nat)
def numG (xs : List Int) (least most : Int) (pos : Nat) : Rg Int :=
  match unpG (xs.drop pos) with
  | none => .bad pos
  | some (n, l) => if n < least ∨ most < n then .bad pos else .got n (pos + l)
def gateG (xs : List Int) (own : Int) (pos : Nat) : Rg (Int × Int) :=
  match numG xs 1 own pos with
  | .bad p => .bad p
  | .got x p1 => match numG xs 0 (own - x) p1 with
    | .bad p => .bad p
    | .got y p2 => .got (own - x, own - x - y) p2
/-- The words of the line that begins at pos, and where the next one begins. -/
def lineG (xs : List Int) (pos : Nat) : Option (List Wd × Nat) := (lnAt xs pos).map fun r => (wordsL false r.1, r.2)
/-- An output's words. -/
def outW (last : Int) (ws : List Wd) : Option Int :=
  if ws.length ≠ 1 then none else match numU (txt ws 0) with
    | none => none
    | some n => if last < n then none else some n
def outG (xs : List Int) (last : Int) (pos : Nat) : Rg Int :=
  match lineG xs pos with
  | none => .bad pos
  | some (ws, n) => match outW last ws with
    | none => .bad pos
    | some l => .got l n
/-- The head's numbers. -/
def numsU : List Wd → List Int → Option (List Int)
  | [], ns => some ns
  | x :: ws, ns => match numU x.1 with
    | none => none
    | some n => numsU ws (ns ++ [n])
def kn (ns : List Int) (k : Nat) : Int := ns.getD k 0
/-- What is amiss with them: a limit or not. -/
def checkG (ns : List Int) : Option Bool :=
  if 8000 < kn ns 1 + kn ns 4 ∨ 8000 < kn ns 3 then some true
  else if kn ns 0 ≠ kn ns 1 + kn ns 4 ∨ kn ns 2 ≠ 0 then some false
  else none
/-- The head's words: what is amiss, or the numbers. -/
inductive Hg | bad (lim : Bool) | got (ns : List Int)
def headG (ws : List Wd) : Hg :=
  if ws.length ≠ 6 ∨ txt ws 0 ≠ [97, 105, 103] then .bad false
  else match numsU ws.tail [] with
    | none => .bad false
    | some ns => match checkG ns with
      | some f => .bad f
      | none => .got ns
def tailG (xs : List Int) (pos : Nat) : Option Nat := if pos < xs.length ∧ (xs.drop pos).take 2 ≠ [99, 10] then some pos else none
def kontT (xs : List Int) (i : Nat) (ps : List (Int × Int)) (os : List Int) (pos : Nat) : Res :=
  match tailG xs pos with
  | some p => badC (false, (p : Int))
  | none => (((i : Int), ps, os), none)
def kontG (xs : List Int) (i : Nat) : Nat → Nat → Nat → List (Int × Int) → List Int → Res
  | 0, _, pos, ps, os => kontT xs i ps os pos
  | r + 1, k, pos, ps, os => match gateG xs (2 * ((i : Int) + k + 1)) pos with
    | .bad p => badC (false, (p : Int))
    | .got g pos' => kontG xs i r (k + 1) pos' (ps ++ [g]) os
def kontO (xs : List Int) (i m a : Nat) : Nat → Nat → List Int → Res
  | 0, pos, os => kontG xs i a 0 pos [] os
  | r + 1, pos, os => match outG xs (2 * (m : Int) + 1) pos with
    | .bad p => badC (false, (p : Int))
    | .got y pos' => kontO xs i m a r pos' (os ++ [y])
def readG (xs : List Int) : Res :=
  match lineG xs 0 with
  | none => badC (false, 0)
  | some (ws, n) => match headG ws with
    | .bad f => badC (f, 0)
    | .got ns => kontO xs (kn ns 1).toNat (kn ns 0).toNat (kn ns 4).toNat (kn ns 3).toNat n []
end Go.Proofs.YtfkodpglgeghlaaDoor

namespace Go.Proofs.YtfkodpglgeghlaaDoor

/-- A number in few bytes: seven bits a byte, the lowest first. -/
def packL (n : Nat) : List Int := if n < 128 then [(n : Int)] else ((n % 128 + 128 : Nat) : Int) :: packL (n / 128)
termination_by n
decreasing_by omega
theorem packL_small {n : Nat} (h : n < 128) : packL n = [(n : Int)] := by rw [packL, if_pos h]
theorem packL_big {n : Nat} (h : ¬ n < 128) : packL n = ((n % 128 + 128 : Nat) : Int) :: packL (n / 128) := by rw [packL, if_neg h]
def gatesB (i : Nat) : Nat → List (Int × Int) → List Int
  | _, [] => []
  | k, x :: ps => packL (2 * ((i : Int) + (k : Int) + 1) - x.1).toNat ++ (packL (x.1 - x.2).toNat ++ gatesB i (k + 1) ps)
theorem gatesB_app (i : Nat) : ∀ (ps qs : List (Int × Int)) (k : Nat), gatesB i k (ps ++ qs) = gatesB i k ps ++ gatesB i (k + ps.length) qs
  | [], qs, k => rfl
  | x :: ps, qs, k => by rw [List.cons_append, gatesB, gatesB_app i ps qs (k + 1), gatesB, List.append_assoc, List.append_assoc, List.length_cons, show k + 1 + ps.length = k + (ps.length + 1) by omega]
theorem gatesB_succ (i : Nat) (ps : List (Int × Int)) (k : Nat) (h : k < ps.length) : gatesB i 0 (ps.take (k + 1)) = gatesB i 0 (ps.take k) ++ packL (2 * ((i : Int) + (k : Int) + 1) - (ps.getD k (0, 0)).1).toNat ++ packL ((ps.getD k (0, 0)).1 - (ps.getD k (0, 0)).2).toNat := by
  rw [List.take_succ_eq_append_getElem h, gatesB_app, List.length_take, Nat.zero_add, show min k ps.length = k by omega]
  simp [gatesB, List.getD, h]
def headB (i o g : Nat) : List Int := [97, 105, 103, 32] ++ lineL [(i : Int) + (g : Int), (i : Int), 0, (o : Int), (g : Int)]
/-- A circuit in few bytes. -/
def textB (i : Nat) (ps : List (Int × Int)) (os : List Int) : List Int := headB i os.length ps.length ++ outsT os ++ gatesB i 0 ps
theorem packL_bts : ∀ (n : Nat), Bts (packL n) := fun n => by
  induction n using Nat.strongRecOn with
  | _ n ih =>
    by_cases h : n < 128
    · rw [packL_small h]; intro x hx; simp at hx; omega
    · rw [packL_big h]
      intro x hx
      rcases List.mem_cons.1 hx with rfl | hx
      · omega
      · exact ih _ (by omega) x hx
theorem packL_len : ∀ (k n : Nat), n < 128 ^ (k + 1) → (packL n).length ≤ k + 1
  | 0, n, h => by rw [packL_small (by simpa using h)]; simp
  | k + 1, n, h => by
    by_cases h' : n < 128
    · rw [packL_small h']; simp
    · rw [packL_big h', List.length_cons]
      have := packL_len k (n / 128) (by rw [Nat.pow_succ] at h; omega)
      omega
theorem unpL_pack : ∀ (d n i : Nat) (acc : Int) (R : List Int), n < 128 ^ (d + 1) → i + d ≤ 4 → unpL i acc (packL n ++ R) = some (acc + (n : Int) * 2 ^ (7 * i), i + (packL n).length)
  | 0, n, i, acc, R, h, hi => by
    have h' : n < 128 := by simpa using h
    rw [packL_small h', List.cons_append, unpL, if_neg (by omega), if_pos (by omega)]
    rw [show ((n : Int) % 128) = n by omega]; rfl
  | d + 1, n, i, acc, R, h, hi => by
    by_cases h' : n < 128
    · rw [packL_small h', List.cons_append, unpL, if_neg (by omega), if_pos (by omega)]
      rw [show ((n : Int) % 128) = n by omega]; rfl
    · rw [packL_big h', List.cons_append, unpL, if_neg (by omega), if_neg (by omega), unpL_pack d (n / 128) (i + 1) _ R (by rw [Nat.pow_succ] at h; omega) (by omega)]
      have e1 : (((n % 128 + 128 : Nat) : Int)) % 128 = ((n % 128 : Nat) : Int) := by omega
      have e2 : (2 : Int) ^ (7 * (i + 1)) = 128 * 2 ^ (7 * i) := by rw [show 7 * (i + 1) = 7 * i + 7 by omega, Int.pow_add, Int.mul_comm]; rfl
      rw [e1, e2, List.length_cons]
      refine congrArg some (Prod.ext ?_ ?_)
      · show acc + ((n % 128 : Nat) : Int) * 2 ^ (7 * i) + ((n / 128 : Nat) : Int) * (128 * 2 ^ (7 * i)) = acc + (n : Int) * 2 ^ (7 * i)
        generalize (2 : Int) ^ (7 * i) = q
        have : (n : Int) = ((n % 128 : Nat) : Int) + 128 * ((n / 128 : Nat) : Int) := by omega
        rw [this, Int.add_mul, Int.add_assoc, Int.mul_assoc 128, Int.mul_left_comm 128]
      · show i + 1 + (packL (n / 128)).length = i + ((packL (n / 128)).length + 1)
        omega
theorem unpG_pack (n : Nat) (R : List Int) (h : n < 34359738368) : unpG (packL n ++ R) = some ((n : Int), (packL n).length) := by
  unfold unpG
  rw [unpL_pack 4 n 0 0 R (by simpa using h) (by omega)]
  simp
theorem drop_len (P Q : List Int) : (P ++ Q).drop P.length = Q := by simp
theorem numG_pack (P R : List Int) (n : Nat) (least most : Int) (h : n < 34359738368) (h1 : least ≤ n) (h2 : (n : Int) ≤ most) : numG (P ++ (packL n ++ R)) least most P.length = .got n (P.length + (packL n).length) := by
  unfold numG
  rw [drop_len, unpG_pack n R h]
  show (if (n : Int) < least ∨ most < n then (Rg.bad P.length : Rg Int) else .got n (P.length + (packL n).length)) = _
  rw [if_neg (by omega)]
theorem gateG_text (P R : List Int) (own a b : Int) (h0 : 0 ≤ b) (h1 : b ≤ a) (h2 : a < own) (h3 : own < 1000000000) : gateG (P ++ (packL (own - a).toNat ++ (packL (a - b).toNat ++ R))) own P.length = .got (a, b) (P.length + (packL (own - a).toNat).length + (packL (a - b).toNat).length) := by
  unfold gateG
  rw [numG_pack P _ _ 1 own (by omega) (by omega) (by omega)]
  dsimp only
  have h5 := numG_pack (P ++ packL (own - a).toNat) R (a - b).toNat 0 (own - ((own - a).toNat : Int)) (by omega) (by omega) (by omega)
  rw [List.append_assoc, List.length_append] at h5
  rw [h5]
  dsimp only
  rw [show own - (((own - a).toNat : Nat) : Int) = a by omega, show a - (((a - b).toNat : Nat) : Int) = b by omega]

theorem sp_end {t : List Int} (ht : Tok t) (k : Nat) (f : Bool) : splitL false k f false t = [(t, k, f)] := by
  obtain ⟨h1, h2, _⟩ := ht
  cases t with
  | nil => exact absurd rfl h1
  | cons x t =>
    have hx : gapB x = false := h2 x (by simp)
    obtain ⟨w1, w2⟩ := while_at inW t t.length (Nat.le_refl _) (fun i hi => by
      have := h2 (t.getD i 0) (by simp [List.getD, hi])
      unfold inW
      rw [this]; rfl) (.inl rfl)
    rw [splitL_word false k f false x _ hx, w1, w2]
    simp [splitL_nil]
theorem lnAt_text (P L R : List Int) (hL : ∀ x ∈ L, x ≠ 10) : lnAt (P ++ (L ++ 10 :: R)) (P.length : Int) = some (L, P.length + L.length + 1) := by
  rw [lnAt_in (by simp; omega), drop_len]
  have hn : nlAt (L ++ 10 :: R) = some L.length := nlAt_is (by simp) (by simp [List.getD]) (fun j hj => by
    rw [show (L ++ 10 :: R).getD j 0 = L.getD j 0 by simp [List.getD, List.getElem?_append_left hj]]
    exact hL _ (by simp [List.getD, hj]))
  rw [hn]
  simp
theorem lineG_text (P L R : List Int) (hL : ∀ x ∈ L, x ≠ 10) : lineG (P ++ (L ++ 10 :: R)) P.length = some (wordsL false L, P.length + L.length + 1) := by
  unfold lineG
  rw [lnAt_text P L R hL]; rfl
theorem itoa_nonl (a : Int) : ∀ x ∈ itoaL a, x ≠ 10 := fun x hx e => by
  have := (tok_i a).2.1 x hx
  subst e
  cases this
theorem outG_text (P R : List Int) (last a : Int) (h0 : 0 ≤ a) (h1 : a ≤ last) (h2 : a < 1000000000) : outG (P ++ (lineL [a] ++ R)) last P.length = .got a (P.length + (lineL [a]).length) := by
  unfold outG
  rw [lineL_1, lineG_text P (itoaL a) R (itoa_nonl a)]
  have e1 : wordsL false (itoaL a) = [(itoaL a, 0, true)] := sp_end (tok_i a) 0 true
  have e2 : outW last (wordsL false (itoaL a)) = some a := by
    rw [e1]
    unfold outW txt
    rw [if_neg (by simp)]
    simp only [List.getD_cons_zero, numU_itoa h0 h2]
    rw [if_neg (by omega)]
  dsimp only
  rw [e2]
  dsimp only
  rw [show (lineL [a]).length = (itoaL a).length + 1 by unfold lineL; rw [bodyL_one]; simp, Nat.add_assoc]
theorem kontG_text (i : Nat) (os : List Int) : ∀ (ps acc : List (Int × Int)) (k : Nat) (P R : List Int), (∀ j, j < ps.length → 0 ≤ (ps.getD j (0, 0)).2 ∧ (ps.getD j (0, 0)).2 ≤ (ps.getD j (0, 0)).1 ∧ (ps.getD j (0, 0)).1 ≤ 2 * ((i : Int) + k + j + 1) - 1) → i + k + ps.length ≤ 1000000 →
    kontG (P ++ (gatesB i k ps ++ R)) i ps.length k P.length acc os = kontT (P ++ (gatesB i k ps ++ R)) i (acc ++ ps) os (P.length + (gatesB i k ps).length)
  | [], acc, k, P, R, _, _ => by simp [gatesB, kontG]
  | x :: ps, acc, k, P, R, h, hm => by
    have hx := h 0 (by simp)
    simp only [List.getD_cons_zero] at hx
    simp only [List.length_cons] at hm
    rw [gatesB, List.length_cons, kontG]
    have e0 : P ++ (packL (2 * ((i : Int) + (k : Int) + 1) - x.1).toNat ++ (packL (x.1 - x.2).toNat ++ gatesB i (k + 1) ps) ++ R) = P ++ (packL (2 * ((i : Int) + (k : Int) + 1) - x.1).toNat ++ (packL (x.1 - x.2).toNat ++ (gatesB i (k + 1) ps ++ R))) := by simp
    have e1 : P ++ (packL (2 * ((i : Int) + (k : Int) + 1) - x.1).toNat ++ (packL (x.1 - x.2).toNat ++ (gatesB i (k + 1) ps ++ R))) = (P ++ packL (2 * ((i : Int) + (k : Int) + 1) - x.1).toNat ++ packL (x.1 - x.2).toNat) ++ (gatesB i (k + 1) ps ++ R) := by simp
    rw [e0, gateG_text P _ (2 * ((i : Int) + k + 1)) x.1 x.2 (by omega) (by omega) (by omega) (by omega)]
    dsimp only
    have ih := kontG_text i os ps (acc ++ [x]) (k + 1) (P ++ packL (2 * ((i : Int) + (k : Int) + 1) - x.1).toNat ++ packL (x.1 - x.2).toNat) R (fun j hj => by
      have := h (j + 1) (by simpa using hj)
      simp only [List.getD_cons_succ] at this
      omega) (by omega)
    rw [e1]
    simp only [List.length_append] at ih ⊢
    rw [ih]
    rw [show acc ++ [x] ++ ps = acc ++ x :: ps by simp]
    congr 1
    omega
theorem kontO_text (i m a : Nat) : ∀ (os acc : List Int) (P R : List Int), (∀ x ∈ os, 0 ≤ x ∧ x ≤ 2 * (m : Int) + 1) → m ≤ 1000000 → kontO (P ++ (outsT os ++ R)) i m a os.length P.length acc = kontG (P ++ (outsT os ++ R)) i a 0 (P.length + (outsT os).length) [] (acc ++ os)
  | [], acc, P, R, _, _ => by simp [outsT, kontO]
  | x :: os, acc, P, R, h, hm => by
    have hx := h x (by simp)
    have e1 : outsT (x :: os) = lineL [x] ++ outsT os := by simp [outsT]
    rw [e1, List.append_assoc, List.length_cons, kontO, outG_text P _ _ x hx.1 hx.2 (by omega)]
    dsimp only
    have ih := kontO_text i m a os (acc ++ [x]) (P ++ lineL [x]) R (fun y hy => h y (by simp [hy])) hm
    rw [List.append_assoc, List.length_append] at ih
    rw [ih, List.length_append, Nat.add_assoc, List.append_assoc]
    rfl
theorem tok_aig : Tok [97, 105, 103] := ⟨by simp, by intro x hx; simp at hx; rcases hx with rfl | rfl | rfl <;> decide, by simp⟩
theorem headB_line (a b c d e : Int) : ∃ L, [97, 105, 103, 32] ++ lineL [a, b, c, d, e] = L ++ [10] ∧ (∀ x ∈ L, x ≠ 10) ∧ ∃ p1 p2 p3 p4 p5, wordsL false L = [([97, 105, 103], 0, true), (itoaL a, p1, false), (itoaL b, p2, false), (itoaL c, p3, false), (itoaL d, p4, false), (itoaL e, p5, false)] := by
  have h := lineL_5 a b c d e []
  rw [List.append_nil] at h
  refine ⟨[97, 105, 103, 32] ++ (itoaL a ++ 32 :: (itoaL b ++ 32 :: (itoaL c ++ 32 :: (itoaL d ++ 32 :: itoaL e)))), by rw [h]; simp, ?_, ?_⟩
  · intro x hx
    simp only [List.mem_append, List.mem_cons, List.not_mem_nil, or_false] at hx
    have k := fun a => itoa_nonl a x
    intro e1
    rcases hx with (h | h | h | h) | h | h | h | h | h | h | h | h | h
    all_goals first
      | omega
      | exact k _ h e1
  · unfold wordsL
    rw [show [97, 105, 103, 32] ++ (itoaL a ++ 32 :: (itoaL b ++ 32 :: (itoaL c ++ 32 :: (itoaL d ++ 32 :: itoaL e)))) = [97, 105, 103] ++ 32 :: (itoaL a ++ 32 :: (itoaL b ++ 32 :: (itoaL c ++ 32 :: (itoaL d ++ 32 :: itoaL e)))) by simp]
    rw [sp_tok tok_aig 0 true 32 _ (by decide), sp_bl, sp_tok (tok_i a) _ false 32 _ (by decide), sp_bl, sp_tok (tok_i b) _ false 32 _ (by decide), sp_bl, sp_tok (tok_i c) _ false 32 _ (by decide), sp_bl, sp_tok (tok_i d) _ false 32 _ (by decide), sp_bl, sp_end (tok_i e)]
    exact ⟨_, _, _, _, _, rfl⟩
theorem headG_five (a b c d e : Int) (p1 p2 p3 p4 p5 : Nat) (h : ∀ x ∈ [a, b, c, d, e], 0 ≤ x ∧ x < 1000000000) : headG [([97, 105, 103], 0, true), (itoaL a, p1, false), (itoaL b, p2, false), (itoaL c, p3, false), (itoaL d, p4, false), (itoaL e, p5, false)] = match checkG [a, b, c, d, e] with | some f => .bad f | none => .got [a, b, c, d, e] := by
  have ha := h a (by simp)
  have hb := h b (by simp)
  have hc := h c (by simp)
  have hd := h d (by simp)
  have he := h e (by simp)
  unfold headG
  rw [if_neg (by simp [txt])]
  simp only [List.tail_cons, numsU, numU_itoa ha.1 ha.2, numU_itoa hb.1 hb.2, numU_itoa hc.1 hc.2, numU_itoa hd.1 hd.2, numU_itoa he.1 he.2, List.nil_append, List.cons_append]
  all_goals (cases checkG [a, b, c, d, e] <;> rfl)
theorem readG_head (a b c d e : Int) (R : List Int) (h : ∀ x ∈ [a, b, c, d, e], 0 ≤ x ∧ x < 1000000000) : readG ([97, 105, 103, 32] ++ lineL [a, b, c, d, e] ++ R) = match checkG [a, b, c, d, e] with
    | some f => badC (f, 0)
    | none => kontO ([97, 105, 103, 32] ++ lineL [a, b, c, d, e] ++ R) b.toNat a.toNat e.toNat d.toNat ([97, 105, 103, 32] ++ lineL [a, b, c, d, e]).length [] := by
  obtain ⟨L, h1, h2, p1, p2, p3, p4, p5, h3⟩ := headB_line a b c d e
  rw [h1]
  have hl := lineG_text [] L R h2
  simp only [List.nil_append, List.length_nil, Nat.zero_add] at hl
  unfold readG
  rw [show L ++ [10] ++ R = L ++ 10 :: R by simp, hl]
  dsimp only
  rw [h3, headG_five a b c d e p1 p2 p3 p4 p5 h]
  cases checkG [a, b, c, d, e] with
  | some f => rfl
  | none => simp [kn]
theorem checkG_ok (i o g : Nat) (h1 : i + g ≤ 8000) (h2 : o ≤ 8000) : checkG [(i : Int) + (g : Int), (i : Int), 0, (o : Int), (g : Int)] = none := by
  unfold checkG
  simp only [kn, List.getD_cons_zero, List.getD_cons_succ]
  rw [if_neg (by omega), if_neg (by omega)]
theorem readG_text (i : Nat) (ps : List (Int × Int)) (os R : List Int) (h : RightC i ps os) : readG (textB i ps os ++ R) = kontT (textB i ps os ++ R) i ps os (textB i ps os).length := by
  obtain ⟨h1, h2, h3, h4⟩ := h
  have e0 : textB i ps os ++ R = [97, 105, 103, 32] ++ lineL [(i : Int) + (ps.length : Int), (i : Int), 0, (os.length : Int), (ps.length : Int)] ++ (outsT os ++ (gatesB i 0 ps ++ R)) := by
    unfold textB headB
    simp
  have el : (textB i ps os).length = ([97, 105, 103, 32] ++ lineL [(i : Int) + (ps.length : Int), (i : Int), 0, (os.length : Int), (ps.length : Int)]).length + (outsT os).length + (gatesB i 0 ps).length := by
    unfold textB headB
    simp
    omega
  rw [e0, el, readG_head _ _ _ _ _ _ (by intro x hx; simp only [List.mem_cons, List.not_mem_nil, or_false] at hx; omega), checkG_ok i os.length ps.length (by omega) h2]
  dsimp only
  generalize [97, 105, 103, 32] ++ lineL [(i : Int) + (ps.length : Int), (i : Int), 0, (os.length : Int), (ps.length : Int)] = H
  rw [show ((i : Int) + (ps.length : Int)).toNat = i + ps.length by omega]
  simp only [Int.toNat_natCast]
  rw [kontO_text i (i + ps.length) ps.length os [] H _ (fun x hx => by have := h4 x hx; omega) (by omega)]
  have hg := kontG_text i ([] ++ os) ps [] 0 (H ++ outsT os) R (fun j hj => by have := h3 j hj; omega) (by omega)
  rw [List.append_assoc, List.length_append] at hg
  rw [hg]
  rfl
theorem readG_back (i : Nat) (ps : List (Int × Int)) (os : List Int) (h : RightC i ps os) : readG (textB i ps os) = (((i : Int), ps, os), none) := by
  have := readG_text i ps os [] h
  rw [List.append_nil] at this
  rw [this]
  unfold kontT tailG
  rw [if_neg (by omega)]
theorem readG_c (i : Nat) (ps : List (Int × Int)) (os T : List Int) (h : RightC i ps os) : readG (textB i ps os ++ 99 :: 10 :: T) = (((i : Int), ps, os), none) := by
  rw [readG_text i ps os _ h]
  unfold kontT tailG
  rw [if_neg (by rw [drop_len]; simp)]
theorem readG_x (i : Nat) (ps : List (Int × Int)) (os T : List Int) (h : RightC i ps os) : readG (textB i ps os ++ 120 :: T) = badC (false, ((textB i ps os).length : Int)) := by
  rw [readG_text i ps os _ h]
  unfold kontT tailG
  rw [if_pos ⟨by simp, by rw [drop_len]; cases T <;> simp⟩]
/-- Unlike circuits have unlike bytes. -/
theorem textB_inj {i i' : Nat} {ps ps' : List (Int × Int)} {os os' : List Int} (h : RightC i ps os) (h' : RightC i' ps' os') (e : textB i ps os = textB i' ps' os') : i = i' ∧ ps = ps' ∧ os = os' := by
  have h1 := readG_back i ps os h
  rw [e, readG_back i' ps' os' h'] at h1
  injection h1 with h1 _
  injection h1 with h1 h2
  injection h2 with h2 h3
  exact ⟨by omega, h2.symm, h3.symm⟩
end Go.Proofs.YtfkodpglgeghlaaDoor

namespace Go.Proofs.YtfkodpglgeghlaaDoor

theorem nlAt_cut {xs : List Int} : ∀ {m k : Nat}, nlAt (xs.take m) = some k → nlAt xs = some k ∧ k + 1 ≤ m := by
  induction xs with
  | nil => intro m k h; simp [nlAt] at h
  | cons x xs ih =>
    intro m k h
    cases m with
    | zero => simp [nlAt] at h
    | succ m =>
      rw [List.take_succ_cons] at h
      unfold nlAt at h ⊢
      by_cases e : x = 10
      · rw [if_pos e] at h ⊢
        injection h with h
        subst h
        exact ⟨rfl, by omega⟩
      · rw [if_neg e] at h ⊢
        cases h' : nlAt (xs.take m) with
        | none => rw [h'] at h; cases h
        | some j =>
          rw [h'] at h
          injection h with h
          obtain ⟨h1, h2⟩ := ih h'
          rw [h1]
          subst h
          exact ⟨rfl, by show j + 1 + 1 ≤ m + 1; omega⟩
theorem lnAt_cut {xs : List Int} {m f : Nat} {r : List Int × Nat} (h : lnAt (xs.take m) (f : Int) = some r) : lnAt xs (f : Int) = some r ∧ r.2 ≤ m := by
  by_cases hf : f < (xs.take m).length
  · have hl : f < xs.length := by rw [List.length_take] at hf; omega
    have hm : f < m := by rw [List.length_take] at hf; omega
    rw [lnAt_in hf] at h
    rw [lnAt_in hl]
    rw [show (xs.take m).drop f = (xs.drop f).take (m - f) by rw [List.drop_take]] at h
    cases h' : nlAt ((xs.drop f).take (m - f)) with
    | none => rw [h'] at h; cases h
    | some k =>
      rw [h'] at h
      injection h with h
      obtain ⟨h1, h2⟩ := nlAt_cut h'
      rw [h1]
      subst h
      refine ⟨?_, by show f + k + 1 ≤ m; omega⟩
      show some (List.take k (List.drop f xs), f + k + 1) = some (List.take k (List.take (m - f) (List.drop f xs)), f + k + 1)
      rw [List.take_take, show min k (m - f) = k by omega]
  · rw [lnAt_out (.inr (by omega))] at h; cases h
theorem lineG_cut {xs : List Int} {m f : Nat} {r : List Wd × Nat} (h : lineG (xs.take m) f = some r) : lineG xs f = some r ∧ r.2 ≤ m := by
  unfold lineG at h ⊢
  cases h' : lnAt (xs.take m) (f : Int) with
  | none => rw [h'] at h; cases h
  | some s =>
    rw [h'] at h
    injection h with h
    obtain ⟨h1, h2⟩ := lnAt_cut h'
    rw [h1]
    subst h
    exact ⟨rfl, h2⟩
theorem unpL_cut : ∀ (xs : List Int) (q i : Nat) (n : Int) (r : Int × Nat), unpL i n (xs.take q) = some r → unpL i n xs = some r ∧ r.2 ≤ i + q
  | [], q, i, n, r, h => by simp [unpL] at h
  | x :: xs, 0, i, n, r, h => by simp [unpL] at h
  | x :: xs, q + 1, i, n, r, h => by
    rw [List.take_succ_cons] at h
    unfold unpL at h ⊢
    split at h
    · cases h
    · rename_i h5
      rw [if_neg h5]
      split at h
      · rename_i h6
        rw [if_pos h6]
        injection h with h
        subst h
        exact ⟨rfl, by show i + 1 ≤ i + (q + 1); omega⟩
      · rename_i h6
        rw [if_neg h6]
        obtain ⟨h1, h2⟩ := unpL_cut xs q (i + 1) _ r h
        exact ⟨h1, by omega⟩
theorem numG_cut {xs : List Int} {m pos p : Nat} {least most n : Int} (hm : pos ≤ m) (h : numG (xs.take m) least most pos = .got n p) : numG xs least most pos = .got n p ∧ p ≤ m := by
  unfold numG at h ⊢
  rw [show (xs.take m).drop pos = (xs.drop pos).take (m - pos) by rw [List.drop_take]] at h
  unfold unpG at h ⊢
  cases h' : unpL 0 0 ((xs.drop pos).take (m - pos)) with
  | none => rw [h'] at h; cases h
  | some r =>
    obtain ⟨h1, h2⟩ := unpL_cut _ _ _ _ _ h'
    rw [h'] at h
    rw [h1]
    dsimp only at h ⊢
    split at h
    · cases h
    · rename_i h3
      rw [if_neg h3]
      injection h with h4 h5
      subst h4; subst h5
      exact ⟨rfl, by omega⟩
theorem gateG_cut {xs : List Int} {m pos p : Nat} {own : Int} {g : Int × Int} (hm : pos ≤ m) (h : gateG (xs.take m) own pos = .got g p) : gateG xs own pos = .got g p ∧ p ≤ m := by
  unfold gateG at h ⊢
  cases h1 : numG (xs.take m) 1 own pos with
  | bad q => rw [h1] at h; cases h
  | got x p1 =>
    rw [h1] at h
    dsimp only at h
    obtain ⟨e1, e2⟩ := numG_cut hm h1
    rw [e1]
    dsimp only
    cases h2 : numG (xs.take m) 0 (own - x) p1 with
    | bad q => rw [h2] at h; cases h
    | got y p2 =>
      rw [h2] at h
      obtain ⟨e3, e4⟩ := numG_cut e2 h2
      rw [e3]
      injection h with h3 h4
      subst h3; subst h4
      exact ⟨rfl, e4⟩
theorem outG_cut {xs : List Int} {m pos p : Nat} {last n : Int} (h : outG (xs.take m) last pos = .got n p) : outG xs last pos = .got n p ∧ p ≤ m := by
  unfold outG at h ⊢
  cases h1 : lineG (xs.take m) pos with
  | none => rw [h1] at h; cases h
  | some r =>
    obtain ⟨ws, q⟩ := r
    rw [h1] at h
    obtain ⟨e1, e2⟩ := lineG_cut h1
    rw [e1]
    dsimp only at h e2 ⊢
    cases h2 : outW last ws with
    | none => rw [h2] at h; cases h
    | some l =>
      rw [h2] at h
      injection h with h3 h4
      subst h3; subst h4
      exact ⟨rfl, e2⟩
/-- What is read has no fault. -/
def okR (r : Res) : Bool := r.2.isNone
theorem kontG_cut (i : Nat) (os : List Int) : ∀ (ps acc : List (Int × Int)) (k : Nat) (P : List Int) (m : Nat), (∀ j, j < ps.length → 0 ≤ (ps.getD j (0, 0)).2 ∧ (ps.getD j (0, 0)).2 ≤ (ps.getD j (0, 0)).1 ∧ (ps.getD j (0, 0)).1 ≤ 2 * ((i : Int) + k + j + 1) - 1) → i + k + ps.length ≤ 1000000 →
    P.length ≤ m → m < (P ++ gatesB i k ps).length → okR (kontG ((P ++ gatesB i k ps).take m) i ps.length k P.length acc os) = false
  | [], acc, k, P, m, _, _, h1, h2 => by simp [gatesB] at h2; omega
  | x :: ps, acc, k, P, m, h, hm, h1, h2 => by
    have hx := h 0 (by simp)
    simp only [List.getD_cons_zero] at hx
    simp only [List.length_cons] at hm
    rw [List.length_cons, kontG]
    cases hg : gateG ((P ++ gatesB i k (x :: ps)).take m) (2 * ((i : Int) + k + 1)) P.length with
    | bad q => rfl
    | got g p =>
      obtain ⟨e1, e2⟩ := gateG_cut h1 hg
      have e3 := gateG_text P (gatesB i (k + 1) ps) (2 * ((i : Int) + k + 1)) x.1 x.2 (by omega) (by omega) (by omega) (by omega)
      rw [gatesB, e3] at e1
      injection e1 with e4 e5
      subst e4; subst e5
      dsimp only
      have ih := kontG_cut i os ps (acc ++ [(x.1, x.2)]) (k + 1) (P ++ packL (2 * ((i : Int) + (k : Int) + 1) - x.1).toNat ++ packL (x.1 - x.2).toNat) m (fun j hj => by
        have := h (j + 1) (by simpa using hj)
        simp only [List.getD_cons_succ] at this
        omega) (by omega) (by simp only [List.length_append]; exact e2)
      have e6 : P ++ gatesB i k (x :: ps) = (P ++ packL (2 * ((i : Int) + (k : Int) + 1) - x.1).toNat ++ packL (x.1 - x.2).toNat) ++ gatesB i (k + 1) ps := by
        rw [gatesB]; simp
      rw [e6] at h2 ⊢
      have := ih h2
      simp only [List.length_append] at this ⊢
      exact this
theorem kontO_cut (i m0 : Nat) (ps : List (Int × Int)) (hps : ∀ j, j < ps.length → 0 ≤ (ps.getD j (0, 0)).2 ∧ (ps.getD j (0, 0)).2 ≤ (ps.getD j (0, 0)).1 ∧ (ps.getD j (0, 0)).1 ≤ 2 * ((i : Int) + j + 1) - 1) (hl : i + ps.length ≤ 8000) (hm0 : m0 ≤ 1000000) : ∀ (os acc : List Int) (P : List Int) (m : Nat), (∀ x ∈ os, 0 ≤ x ∧ x ≤ 2 * (m0 : Int) + 1) →
    P.length ≤ m → m < (P ++ (outsT os ++ gatesB i 0 ps)).length → okR (kontO ((P ++ (outsT os ++ gatesB i 0 ps)).take m) i m0 ps.length os.length P.length acc) = false
  | [], acc, P, m, _, h1, h2 => by
    have e0 : outsT [] = [] := rfl
    rw [e0, List.nil_append] at h2 ⊢
    exact kontG_cut i acc ps [] 0 P m (fun j hj => by have := hps j hj; omega) (by omega) h1 h2
  | x :: os, acc, P, m, h, h1, h2 => by
    have hx := h x (by simp)
    have e0 : outsT (x :: os) = lineL [x] ++ outsT os := by simp [outsT]
    rw [List.length_cons, kontO]
    cases hg : outG ((P ++ (outsT (x :: os) ++ gatesB i 0 ps)).take m) (2 * (m0 : Int) + 1) P.length with
    | bad q => rfl
    | got y p =>
      obtain ⟨e1, e2⟩ := outG_cut hg
      have e3 := outG_text P (outsT os ++ gatesB i 0 ps) (2 * (m0 : Int) + 1) x hx.1 hx.2 (by omega)
      rw [e0, List.append_assoc, e3] at e1
      injection e1 with e4 e5
      subst e4; subst e5
      dsimp only
      have ih := kontO_cut i m0 ps hps hl hm0 os (acc ++ [x]) (P ++ lineL [x]) m (fun y hy => h y (by simp [hy])) (by simp only [List.length_append]; exact e2)
      have e6 : P ++ (outsT (x :: os) ++ gatesB i 0 ps) = (P ++ lineL [x]) ++ (outsT os ++ gatesB i 0 ps) := by rw [e0]; simp
      rw [e6] at h2 ⊢
      have := ih h2
      simp only [List.length_append] at this ⊢
      exact this
theorem readG_cut (i : Nat) (ps : List (Int × Int)) (os : List Int) (m : Nat) (h : RightC i ps os) (hm : m < (textB i ps os).length) : okR (readG ((textB i ps os).take m)) = false := by
  obtain ⟨h1, h2, h3, h4⟩ := h
  unfold readG
  cases hl : lineG ((textB i ps os).take m) 0 with
  | none => rfl
  | some r =>
    obtain ⟨e1, e2⟩ := lineG_cut hl
    obtain ⟨L, k1, k2, p1, p2, p3, p4, p5, k3⟩ := headB_line ((i : Int) + (ps.length : Int)) (i : Int) 0 (os.length : Int) (ps.length : Int)
    have hT : textB i ps os = ([97, 105, 103, 32] ++ lineL [(i : Int) + (ps.length : Int), (i : Int), 0, (os.length : Int), (ps.length : Int)]) ++ (outsT os ++ gatesB i 0 ps) := by unfold textB headB; simp
    have e3 := lineG_text [] L (outsT os ++ gatesB i 0 ps) k2
    simp only [List.nil_append, List.length_nil, Nat.zero_add] at e3
    rw [hT, k1, show L ++ [10] ++ (outsT os ++ gatesB i 0 ps) = L ++ 10 :: (outsT os ++ gatesB i 0 ps) by simp, e3] at e1
    injection e1 with e1
    subst e1
    dsimp only at e2 ⊢
    rw [k3, headG_five _ _ _ _ _ _ _ _ _ _ (by intro x hx; simp only [List.mem_cons, List.not_mem_nil, or_false] at hx; omega), checkG_ok i os.length ps.length (by omega) h2]
    dsimp only
    have hc := kontO_cut i (i + ps.length) ps h3 h1 (by omega) os [] (L ++ [10]) m (fun x hx => by have := h4 x hx; omega) (by simpa using e2) (by rw [← k1, ← hT]; exact hm)
    rw [← k1, ← hT, k1] at hc
    simp only [kn, List.getD_cons_zero, List.getD_cons_succ, Int.toNat_natCast]
    rw [show ((i : Int) + (ps.length : Int)).toNat = i + ps.length by omega]
    simpa using hc

/-- The one form is none of the other. -/
theorem readG_aag (i : Nat) (ps : List (Int × Int)) (os : List Int) : okR (readG (textA i ps os)) = false := by
  unfold readG
  cases hl : lineG (textA i ps os) 0 with
  | none => rfl
  | some r =>
    obtain ⟨ws, n⟩ := r
    dsimp only
    have hh : headG ws = .bad false := by
      unfold headG
      rw [if_pos]
      refine .inr fun ht => ?_
      unfold lineG at hl
      cases h' : lnAt (textA i ps os) ((0 : Nat) : Int) with
      | none => rw [h'] at hl; cases hl
      | some s =>
        rw [h'] at hl
        injection hl with hl
        injection hl with hl _
        obtain ⟨T, hT⟩ := textA_cons i ps os
        rw [hT, lnAt_in (by simp)] at h'
        simp only [List.drop_zero] at h'
        cases hn : nlAt (97 :: 97 :: 103 :: 32 :: T) with
        | none => rw [hn] at h'; cases h'
        | some k =>
          rw [hn] at h'
          injection h' with h'
          have hk : 4 ≤ k := by
            unfold nlAt at hn
            rw [if_neg (by decide)] at hn
            unfold nlAt at hn
            rw [if_neg (by decide)] at hn
            unfold nlAt at hn
            rw [if_neg (by decide)] at hn
            unfold nlAt at hn
            rw [if_neg (by decide)] at hn
            cases hq : nlAt T with
            | none => rw [hq] at hn; cases hn
            | some j => rw [hq] at hn; simp at hn; omega
          obtain ⟨k', rfl⟩ : ∃ k', k = k' + 4 := ⟨k - 4, by omega⟩
          have e1 : s.1 = [97, 97, 103] ++ 32 :: T.take k' := by rw [← h']; rfl
          rw [← hl, e1] at ht
          unfold wordsL at ht
          rw [sp_tok tok_aag 0 true 32 _ (by decide)] at ht
          simp [txt] at ht
    rw [hh]
    rfl
theorem readR_aig (e : Int) (i : Nat) (ps : List (Int × Int)) (os : List Int) : okR (readR e (wordsL false (textB i ps os))) = false := by
  have h : ∃ T, textB i ps os = [97, 105, 103] ++ 32 :: T := ⟨_, by unfold textB headB; simp; rfl⟩
  obtain ⟨T, hT⟩ := h
  rw [hT]
  unfold wordsL
  rw [sp_tok tok_aig 0 true 32 _ (by decide)]
  rfl
theorem okR_none {r : Res} (h : okR r = false) : r.2 ≠ none := by
  intro e
  unfold okR at h
  rw [e] at h
  cases h
end Go.Proofs.YtfkodpglgeghlaaDoor
