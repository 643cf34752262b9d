/- Contracts of word.Line and skolemref1.Line (both are lineL), and of bytes.IndexByte. Conditions: the slice reads as bytes, and is not too long. -/
import Derived.Test.YtfoohdknjacenaaDoorBits
import Derived.Laws.Externs
import Derived.Lib.BytesEntry
import Derived.Laws.BytesArg
namespace Go.Proofs.YtfoohdknjacenaaDoor
open Go.RowKit

/-- The first line's end. -/
def nlAt : List Int → Option Nat
  | [] => none
  | x :: xs => if x = 10 then some 0 else (nlAt xs).map (· + 1)
theorem nlAt_index {xs : List Int} (h : Bts xs) : Lib.indexByte (Lib.bytesOf xs) 10 = match nlAt xs with | some k => (k : Int) | none => -1 := by
  induction xs with
  | nil => rfl
  | cons x xs ih =>
    have hx := h x (by simp)
    have ih' := ih (fun y hy => h y (by simp [hy]))
    show Lib.indexByte (UInt8.ofNat x.toNat :: Lib.bytesOf xs) 10 = _
    unfold Lib.indexByte nlAt
    by_cases e : x = 10
    · subst e; rfl
    · have hne : (UInt8.ofNat x.toNat == 10) = false := by
        simp only [beq_eq_false_iff_ne]
        intro h'
        have := u8_back hx.1 hx.2
        rw [h'] at this
        exact e (by rw [← this]; rfl)
      rw [hne, if_neg e, ih']
      cases nlAt xs with
      | none => rfl
      | some k => simp
theorem nlAt_lt {xs : List Int} {k : Nat} (h : nlAt xs = some k) : k < xs.length ∧ xs.getD k 0 = 10 ∧ ∀ j, j < k → xs.getD j 0 ≠ 10 := by
  induction xs generalizing k with
  | nil => cases h
  | cons x xs ih =>
    unfold nlAt at h
    by_cases e : x = 10
    · rw [if_pos e] at h; injection h with h; subst h; exact ⟨by simp, by simpa using e, fun j hj => by omega⟩
    · rw [if_neg e] at h
      cases h' : nlAt xs with
      | none => rw [h'] at h; cases h
      | some j =>
        rw [h'] at h; injection h with h; subst h
        obtain ⟨h1, h2, h3⟩ := ih h'
        refine ⟨by simp; omega, by simpa using h2, fun i hi => ?_⟩
        cases i with
        | zero => simpa using e
        | succ i => have hi' : i + 1 < j + 1 := hi; simpa using h3 i (by omega)
theorem nlAt_none {xs : List Int} (h : nlAt xs = none) : ∀ j, j < xs.length → xs.getD j 0 ≠ 10 := by
  induction xs with
  | nil => intro j hj; simp at hj
  | cons x xs ih =>
    unfold nlAt at h
    by_cases e : x = 10
    · rw [if_pos e] at h; cases h
    · rw [if_neg e] at h
      have h' : nlAt xs = none := by
        cases h' : nlAt xs with
        | none => rfl
        | some j => rw [h'] at h; cases h
      intro j hj
      cases j with
      | zero => simpa using e
      | succ j => simpa using ih h' j (by simpa using hj)
theorem nlAt_is {xs : List Int} {k : Nat} (h1 : k < xs.length) (h2 : xs.getD k 0 = 10) (h3 : ∀ j, j < k → xs.getD j 0 ≠ 10) : nlAt xs = some k := by
  cases h : nlAt xs with
  | none => exact absurd h2 (nlAt_none h k h1)
  | some j =>
    obtain ⟨a, b, c⟩ := nlAt_lt h
    rcases Nat.lt_trichotomy j k with e | e | e
    · exact absurd b (h3 j e)
    · rw [e]
    · exact absurd h2 (c k e)
theorem nlAt_not {xs : List Int} (h : ∀ j, j < xs.length → xs.getD j 0 ≠ 10) : nlAt xs = none := by
  cases h' : nlAt xs with
  | none => rfl
  | some j => obtain ⟨a, b, _⟩ := nlAt_lt h'; exact absurd b (h j a)
theorem getD_dropI (xs : List Int) (f j : Nat) : (xs.drop f).getD j 0 = xs.getD (f + j) 0 := by simp [List.getD]

/-- The line from f on. -/
def lineL (xs : List Int) (f : Int) : Option (List Int × Nat) :=
  if 0 ≤ f ∧ f < xs.length then (nlAt (xs.drop f.toNat)).map fun k => ((xs.drop f.toNat).take k, f.toNat + k + 1) else none
def lineV : Option (List Int × Nat) → Value
  | none => .tuple #[.string ⟨#[]⟩, .int .i64 0, .bool false]
  | some (s, n) => .tuple #[.string (strOfNums s), .int .i64 n, .bool true]

set_option maxRecDepth 8000 in
theorem indexByte_any (b o n c : Nat) (xs : List Int) (w : World) (hb : Bts xs) (hx : xs.length = n) (hc : ∀ i, i < n → w.cell? ⟨b, o + i, none⟩ = some (.int .u8 (xs.getD i 0))) :
    Calls Tryd.prog 39 #[.slice (some ⟨b, o, none⟩) n c, .int .u8 10] w fun e w' => e = .returned (.int .i64 (match nlAt xs with | some k => (k : Int) | none => -1)) ∧ w = w' := by
  have HI := Lib.hid (nlAt_index hb)
  have HR := Lib.hid (Lib.run_indexByteSlice (P := Tryd.prog) w b o n c xs hx hc 10)
  clear hc hx hb
  generalize (match nlAt xs with | some k => (k : Int) | none => -1) = r at *
  go_enter Tryd.func39, Tryd.ntmps39
  go_wp2
  rw [run_callFunc_extern Tryd.func56 (by kernel_rfl) (by kernel_rfl) (by kernel_rfl) (e := Extern.BytealgIndexByte.indexByte) (by kernel_rfl), HR.out]
  simp only [Result.andThen]
  rw [Oper.upon_value]
  go_wp2
  go_ret
  exact ⟨ret_int (by rw [← HI.out]), rfl⟩

theorem lineL_out {xs : List Int} {f : Int} (h : f < 0 ∨ (xs.length : Int) ≤ f) : lineL xs f = none := by
  unfold lineL; rw [if_neg (by omega)]
theorem lineL_in {xs : List Int} {f : Nat} (h : f < xs.length) : lineL xs (f : Int) = (nlAt (xs.drop f)).map fun k => ((xs.drop f).take k, f + k + 1) := by
  unfold lineL; rw [if_pos (by omega)]; rfl

set_option maxRecDepth 4000 in
set_option maxHeartbeats 1000000 in
theorem line_any (v : Value) (xs : List Int) (f : Int) (w : World) (hv : RowG (Value.int .u8) 0 w v xs) (hb : Bts xs) (hn : xs.length ≤ 4000000) :
    Calls Tryd.prog 24 #[v, .int .i64 f] w fun e w' => e = .returned (lineV (lineL xs f)) ∧ w = w' := by
  obtain ⟨a, c, rfl, hxc, hcm, hx⟩ := hv
  unfold maxLen at hcm
  by_cases hneg : f < 0
  · have HR := Lib.hid (lineL_out (xs := xs) (.inl hneg))
    generalize xs.length = n at *
    clear hx
    go_enter Tryd.func24, Tryd.ntmps24
    go_wp2_with fail
    (try simp only [Exit.inBlock, Exit.then]); refine bodyPost_ret (results_tmp3 rfl _ _ _) rfl ?_
    exact ⟨by rw [HR.out]; rfl, rfl⟩
  · obtain ⟨g, rfl⟩ : ∃ g : Nat, f = g := ⟨f.toNat, by omega⟩
    clear hneg
    by_cases hge : xs.length ≤ g
    · have HR := Lib.hid (lineL_out (xs := xs) (f := g) (.inr (by omega)))
      generalize xs.length = n at *
      clear hx
      go_enter Tryd.func24, Tryd.ntmps24
      go_wp2_with fail
      (try simp only [Exit.inBlock, Exit.then]); refine bodyPost_ret (results_tmp3 rfl _ _ _) rfl ?_
      exact ⟨by rw [HR.out]; rfl, rfl⟩
    · obtain ⟨b, off, rfl, hbl, hx⟩ := hx.resolve_left (by omega)
      have hck : ¬ c = g := by omega
      have HR := Lib.hid (lineL_in (xs := xs) (f := g) (by omega))
      have HI := Lib.hid (indexByte_any b (off + g) (xs.length - g) (c - g) (xs.drop g) w (hb.drop g) (by simp) (fun i hi => by rw [Nat.add_assoc, getD_dropI]; exact hx (g + i) (by omega)))
      have HCV := Lib.hid (fun (k : Nat) (hk : k ≤ xs.length - g) => run_convert_bytes_arg (P := Tryd.prog) w 34 5 Tryd.underlying34 Tryd.underlying5 b (off + g) k (c - g) ((xs.drop g).take k) (by simp; omega) (fun i hi => by rw [Nat.add_assoc, hx (g + i) (by omega)]; simp [List.getD, hi]) 9 Tryd.underlying9)
      clear hx
      cases hnl : nlAt (xs.drop g) with
      | none =>
        rw [hnl] at HR HI
        clear HCV hnl
        generalize xs.length = n at *
        go_enter Tryd.func24, Tryd.ntmps24
        go_wp2_with (go_at_call 39; refine HI.out.mono ?_; rintro e w' ⟨rfl, rfl⟩)
        (try simp only [Exit.inBlock, Exit.then]); refine bodyPost_ret (results_tmp3 rfl _ _ _) rfl ?_
        exact ⟨by rw [HR.out]; rfl, rfl⟩
      | some k =>
        have hk := (nlAt_lt hnl).1
        rw [hnl] at HR HI
        have hk' : k < xs.length - g := by simpa using hk
        have HCK := Lib.hid (HCV.out k (by omega))
        clear HCV hnl hk
        generalize xs.length = n at *
        have hc1 := HCK.out
        go_enter Tryd.func24, Tryd.ntmps24
        go_wp2_with (go_at_call 39; refine HI.out.mono ?_; rintro e w' ⟨rfl, rfl⟩)
        (try simp only [Exit.inBlock, Exit.then]); refine bodyPost_ret (results_tmp3 rfl _ _ _) rfl ?_
        exact ⟨by rw [HR.out]; rfl, rfl⟩

end Go.Proofs.YtfoohdknjacenaaDoor
