/- The step 'append(v, s...)', s a string, v a row of bytes of the call's own. Conditions: the row is the call's own, and short. -/
import Derived.Test.YtfkodpglgeghlaaDoorGen
import Derived.Test.YtfkodpglgeghlaaDoorStr
import Derived.Lib.AppendStr
namespace Go.Proofs.YtfkodpglgeghlaaDoor
open Go.RowKit

theorem infoU8 : (Tryd.prog.info? 5).map (fun i => (i.zero, i.size, i.bytes)) = some (some (.int .u8 0), 1, 1) := by kernel_rfl
theorem strCells_nums {ys : List Int} (hb : Bts ys) : Lib.strCells (strOfNums ys) = ys.map (Value.int .u8) := by
  show (ys.map fun n => UInt8.ofNat n.toNat).map (fun b => Value.int .u8 b.toNat) = _
  rw [List.map_map]
  apply List.map_congr_left
  intro x hx
  show Value.int .u8 ((UInt8.ofNat x.toNat).toNat : Int) = _
  rw [u8_back (hb x hx).1 (hb x hx).2]
theorem wpList_appStr {ops : Array Oper} {rest : List Oper} {o : Oper} {a : Act} {Q : Exit → Act → World → Prop} (hgd : o.guard = none) (sl x : Operand)
    (ho : o.op = .call { callee := .builtin .append, args := #[sl, x], argTypes := #[23, 9] })
    (w : World) (B : Nat) (v : Value) (n : Nat) (xs ys : List Int) (hb : Bts ys) (hown : w.ownsRow B 5 1 v n (xs.map (Value.int .u8))) (hB : B ≤ w.heap.size) (hn : n + ys.length < 1099511627776)
    (hs : a.eval sl = v) (hx : a.eval x = .string (strOfNums ys))
    (h : ∀ v' w', w'.ownsRow B 5 1 v' (n + ys.length) ((xs ++ ys).map (Value.int .u8)) → Below B w w' → wpList Tryd.prog ops Q rest (a.put o.dst v') w') : wpList Tryd.prog ops Q (o :: rest) a w := by
  obtain ⟨i0, hi, hz0, hz1, hz2⟩ := info_parts infoU8
  refine Lib.wpList_append_own_string _ hgd sl x 23 9 ho B 5 i0 Tryd.underlying23 Tryd.underlying9 hi hz0 hz1 hz2 v n _ hs hown (strOfNums ys) hx (by rw [strOfNums_size]; unfold maxLen; omega) (by rw [strOfNums_size]; omega) hB ?_
  intro v' w' h1 h2 _
  rw [strOfNums_size, strCells_nums hb, ← List.map_append] at h1
  exact h v' w' h1 ((Below.refl B w).grown h2 hB fun k hk => (hown.lt k hk).1)
end Go.Proofs.YtfkodpglgeghlaaDoor
