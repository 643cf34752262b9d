/- Plain facts of strings as lists of numbers (bytes): strOfNums and back. Nothing of the program. -/
import Derived.WalkKit
import Derived.Laws.BytesArg
import Derived.Lib.Strings
import Derived.Lib.Hide
namespace Go.Proofs.YtfkodpglgeghlaaDoor

/-- Every number is a byte. -/
def Bts (xs : List Int) : Prop := ∀ x ∈ xs, 0 ≤ x ∧ x ≤ 255
theorem Bts.at {xs : List Int} (h : Bts xs) (i : Nat) : 0 ≤ xs.getD i 0 ∧ xs.getD i 0 ≤ 255 := by
  by_cases hi : i < xs.length
  · have := h _ (List.getElem_mem hi); simpa [List.getD, hi] using this
  · simp [List.getD, show xs.length ≤ i by omega]
theorem Bts.drop {xs : List Int} (h : Bts xs) (i : Nat) : Bts (xs.drop i) := fun x hx => h x (List.mem_of_mem_drop hx)
theorem Bts.take {xs : List Int} (h : Bts xs) (i : Nat) : Bts (xs.take i) := fun x hx => h x (List.mem_of_mem_take hx)
theorem Bts.append {xs ys : List Int} (h : Bts xs) (h' : Bts ys) : Bts (xs ++ ys) := fun x hx => (List.mem_append.1 hx).elim (h x) (h' x)
theorem Bts.nil : Bts [] := fun x hx => by cases hx

theorem u8_back {x : Int} (h1 : 0 ≤ x) (h2 : x ≤ 255) : ((UInt8.ofNat x.toNat).toNat : Int) = x := by
  have : (UInt8.ofNat x.toNat).toNat = x.toNat := by
    rw [UInt8.toNat_ofNat']
    omega
  omega
theorem str_at {xs : List Int} (hb : Bts xs) (k : Nat) (h : k < (strOfNums xs).size) : (((strOfNums xs)[k]'h).toNat : Int) = xs.getD k 0 := by
  have hk : k < xs.length := by rw [strOfNums_size] at h; exact h
  have e : (strOfNums xs)[k]'h = UInt8.ofNat (xs[k]).toNat := by
    show (strOfNums xs).data[k]'_ = _
    simp [strOfNums]
  rw [e]
  have := hb _ (List.getElem_mem hk)
  rw [u8_back this.1 this.2]
  simp [List.getD, hk]
theorem str_toList (xs : List Int) : (strOfNums xs).toList = xs.map fun n => UInt8.ofNat n.toNat := by rw [ByteArray.toList_eq]; rfl
theorem str_extract (xs : List Int) (a b : Nat) : (strOfNums xs).extract a b = strOfNums ((xs.drop a).take (b - a)) := by
  rw [Lib.extract_eq]
  simp [strOfNums]
theorem str_inj {xs ys : List Int} (hx : Bts xs) (hy : Bts ys) (h : (strOfNums xs).toList = (strOfNums ys).toList) : xs = ys := by
  rw [str_toList, str_toList] at h
  have e : ∀ zs : List Int, Bts zs → (zs.map fun n => UInt8.ofNat n.toNat).map (fun b => (b.toNat : Int)) = zs := fun zs hz => by
    rw [List.map_map]
    conv => rhs; rw [← List.map_id zs]
    apply List.map_congr_left
    intro x hx
    exact u8_back (hz x hx).1 (hz x hx).2
  rw [← e xs hx, ← e ys hy, h]
/-- A string's bytes. -/
def numsOf (s : ByteArray) : List Int := s.data.toList.map fun b => (b.toNat : Int)
theorem numsOf_bts (s : ByteArray) : Bts (numsOf s) := fun x hx => by
  obtain ⟨b, _, rfl⟩ := List.mem_map.1 hx
  have := b.toNat_lt
  omega
theorem numsOf_back (s : ByteArray) : strOfNums (numsOf s) = s := by
  apply ByteArray.ext
  show ((numsOf s).map fun n => UInt8.ofNat n.toNat).toArray = s.data
  unfold numsOf
  rw [List.map_map]
  have : ((fun n : Int => UInt8.ofNat n.toNat) ∘ fun b : UInt8 => (b.toNat : Int)) = id := by funext b; simp
  rw [this]; simp
end Go.Proofs.YtfkodpglgeghlaaDoor
