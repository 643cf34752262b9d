/- strconv.AppendInt at base 10: onto a row of bytes of the call's own (the library's contract); onto the bytes of a constant string, of a small number that is not below 0. Conditions: the table of powers of ten is as the program lays it ('Tabs'). -/
import Derived.Test.YtfkodpglgeghlaaDoorShelf
import Derived.Test.YtfkodpglgeghlaaDoorTextP
import Derived.Test.YtfkodpglgeghlaaDoorAppStr
import Derived.Lib.SlBytesConst
namespace Go.Proofs.YtfkodpglgeghlaaDoor
open Go.RowKit Go.Lib

/-- The powers of ten lie as the program lays them, and go on so. -/
def Tabs (W : World) : Prop := Lib.TabBelow Tryd.prog W.heap.size W "internal/strconv.uint64pow10" .u64 Lib.pow10Tab
theorem Tabs.at {W w : World} (h : Tabs W) (B : Nat) (hb : Below W.heap.size W w) (hB : W.heap.size ≤ B) : Lib.TabBelow Tryd.prog B w "internal/strconv.uint64pow10" .u64 Lib.pow10Tab := fun w' h' => h w' (hb.trans (h'.mono hB))
theorem Tabs.keep {W w : World} (h : Tabs W) (hb : Below W.heap.size W w) : Tabs w := fun w' h' => h w' (hb.trans (h'.mono hb.size))

/-- AppendInt onto a row of the call's own. -/
theorem appInt_any (B : Nat) (i : Int) (h0 : -1000000000 < i) (h1 : i < 1000000000) (sv : Value) (xs : List Int) (w : World) (hown : w.ownsRow B 5 1 sv xs.length (xs.map (Value.int .u8))) (hBw : B ≤ w.heap.size) (hl : xs.length ≤ 100000) (ht : Lib.TabBelow Tryd.prog B w "internal/strconv.uint64pow10" .u64 Lib.pow10Tab) :
    Calls Tryd.prog 26 #[sv, .int .i64 i, .int .i64 10] w fun e w' => ∃ v', e = .returned v' ∧ w'.ownsRow B 5 1 v' (xs ++ itoaL i).length ((xs ++ itoaL i).map (Value.int .u8)) ∧ Below B w w' := by
  refine (Tryd.strconv_AppendInt_10 B xs.length i (by omega) (by omega) sv _ w hown hBw (by omega) ht).mono ?_
  rintro e w' ⟨v', rfl, h2, h3, _⟩
  refine ⟨v', rfl, ?_, h3⟩
  rw [byteCells_itoa, ← List.map_append, ← itoaL_len, ← List.length_append] at h2
  exact h2

theorem wpList_appFull {ops : Array Oper} {rest : List Oper} {o : Oper} {a : Act} {Q : Exit → Act → World → Prop} (hgd : o.guard = none) (sl x : Operand)
    (ho : o.op = .call { callee := .builtin .append, args := #[sl, x], argTypes := #[23, 9] })
    (w : World) (g n : Nat) (olds : List Value) (hlo : olds.length = n) (holds : ∀ j v, olds[j]? = some v → w.cell? ⟨g, j, none⟩ = some v) (s : ByteArray) (hs0 : 0 < s.size) (hlim : n + s.size ≤ 1000000)
    (hs : a.eval sl = .slice (some ⟨g, 0, none⟩) n n) (hx : a.eval x = .string s)
    (h : ∀ v' w', w'.ownsRow w.heap.size 5 1 v' (n + s.size) (olds ++ strCells s) → Below w.heap.size w w' → wpList Tryd.prog ops Q rest (a.put o.dst v') w') : wpList Tryd.prog ops Q (o :: rest) a w := by
  obtain ⟨i0, hi, hz, hz1, hz2⟩ := info_parts infoU8
  refine wpList_plain hgd fun K hK => ?_
  have hlen : (olds ++ strCells s).length = (n + s.size) * 1 := by rw [List.length_append, hlo, strCells_length, Nat.mul_one]
  have ha : ∀ k, (⟨g, 0, none⟩ : Addr).add k = ⟨g, k, none⟩ := fun k => by unfold Addr.add; split <;> simp_all
  have hr := run_append_grow_string (P := Tryd.prog) w 23 9 o.type 5 i0 (.int .u8 0) Tryd.underlying23 Tryd.underlying9 hi hz ⟨g, 0, none⟩ n n olds (by rw [hz1]; simpa using hlo) (fun j v hj => by rw [ha]; exact holds j v hj) s (by omega) (by omega) (by rw [hz2]; exact growslice_fits (by omega) (by omega))
  have hge := grownCap_ge w (n + s.size) n 5
  have hcm : grownCap w (n + s.size) n 5 ≤ maxLen := grownCap_le_maxLen w (n + s.size) n 5 (by unfold maxLen; omega)
  have hown : (w.drew.alloc (.cells (olds.toArray ++ (strCells s).toArray ++ Builtin.zeroCells (Value.int .u8 0).cells (grownCap w (n + s.size) n 5 - (n + s.size))) 5)).ownsRow w.heap.size 5 1 (.slice (some ⟨w.heap.size, 0, none⟩) (n + s.size) (grownCap w (n + s.size) n 5)) (n + s.size) (olds ++ strCells s) := by
    refine ⟨hlen, .inr ⟨w.heap.size, _, _, rfl, Nat.le_refl _, heap_alloc_new w.drew _, hge, hcm, ?_, ?_⟩⟩
    · have hzz : (Value.int IntKind.u8 0).cells.size = 1 := rfl
      simp only [Array.size_append, List.size_toArray, size_zeroCells, hzz, hlo, strCells_length]
      omega
    · simp only [Array.toList_append, List.append_assoc]
      rw [← List.append_assoc, ← hlen]
      exact List.take_left
  unfold Oper.wp execOp
  simp only [ho, resolve, invoke, builtin, Sem.run_bind, Sem.run_pure, Result.andThen_ok, List.map_toArray, List.map_cons, List.map_nil, hs, hx, hr]
  exact hK _ _ (h _ _ hown (((Below.refl _ w).drew).alloc (by simp) _))

theorem decStr (u : Nat) : strCells ⟨(decDigits u).toArray⟩ = (decL u).map (Value.int .u8) := by
  unfold strCells decL
  rw [List.map_map]
  rfl
theorem decSize (u : Nat) : (⟨(decDigits u).toArray⟩ : ByteArray).size = (decL u).length := by simp [ByteArray.size, decL]
theorem small_any (u : Nat) (h : u < 100) (w : World) : Calls Tryd.prog 60 #[.int .i64 u] w fun e w' => e = .returned (.string ⟨(decDigits u).toArray⟩) ∧ w = w' :=
  (Any.internal_strconv_small (P := Tryd.prog) (ρ := Tryd.laysM176_ren) { Tryd.laysM176 with } u h w).mono fun _ _ ⟨h1, h2⟩ => ⟨h1, h2.symm⟩

set_option maxHeartbeats 2000000 in
theorem appU_first (g n u : Nat) (hu : u < 100) (xs : List Int) (hx : xs.length = n) (hn : n ≤ 1000) (w : World) (hc : ∀ j v, (xs.map (Value.int .u8))[j]? = some v → w.cell? ⟨g, j, none⟩ = some v) :
    Calls Tryd.prog 43 #[.slice (some ⟨g, 0, none⟩) n n, .int .u64 u, .int .i64 10] w fun e w' => ∃ v', e = .returned v' ∧ w'.ownsRow w.heap.size 5 1 v' (xs ++ decL u).length ((xs ++ decL u).map (Value.int .u8)) ∧ Below w.heap.size w w' := by
  have HS := Lib.hid (small_any u hu)
  have HC := Lib.hid hc; clear hc
  have hsz := decSize u
  have hst := decStr u
  have hd : (decL u).length ≤ 2 := dec_len 1 u (Nat.lt_of_lt_of_le hu (by decide))
  have hd1 : 0 < (decL u).length := List.length_pos_iff.2 (dec_ok u).2.2
  have HFI := Lib.hid (show ∀ (v' : Value) (w' : World), w'.ownsRow w.heap.size 5 1 v' (n + (decL u).length) (xs.map (Value.int .u8) ++ (decL u).map (Value.int .u8)) → w'.ownsRow w.heap.size 5 1 v' (xs ++ decL u).length ((xs ++ decL u).map (Value.int .u8)) from fun v' w' h => by rw [List.length_append, List.map_append, hx]; exact h)
  have hlx : (xs.map (Value.int .u8)).length = n := by simpa using hx
  generalize (decL u).map (Value.int .u8) = ds at *
  generalize (decL u).length = dl at *
  generalize (⟨(decDigits u).toArray⟩ : ByteArray) = s at *
  generalize xs.map (Value.int .u8) = cs at *
  go_enter Tryd.func43, Tryd.ntmps43
  go_wp2_with (first
    | (go_at_call 60; refine (HS.out _).mono ?_; rintro e w' ⟨rfl, rfl⟩)
    | (at_builtin; refine wpList_appFull rfl _ _ rfl w g n cs hlx HC.out s (by omega) (by omega) rfl rfl ?_; intro v' w1 hown hb))
  go_ret
  rw [hsz, hst] at hown
  exact ⟨_, rfl, HFI.out _ _ hown, hb⟩

set_option maxHeartbeats 2000000 in
theorem appI_first (g n u : Nat) (hu : u < 100) (xs : List Int) (hx : xs.length = n) (hn : n ≤ 1000) (w : World) (hc : ∀ j v, (xs.map (Value.int .u8))[j]? = some v → w.cell? ⟨g, j, none⟩ = some v) :
    Calls Tryd.prog 44 #[.slice (some ⟨g, 0, none⟩) n n, .int .i64 u, .int .i64 10] w fun e w' => ∃ v', e = .returned v' ∧ w'.ownsRow w.heap.size 5 1 v' (xs ++ decL u).length ((xs ++ decL u).map (Value.int .u8)) ∧ Below w.heap.size w w' := by
  have HS := Lib.hid (appU_first g n u hu xs hx hn w hc)
  have hub : decide ((u : Int) < 0) = false := by simp
  have hwr : IntKind.u64.wrap (u : Int) = u := by rw [IntKind.wrap_u64]; omega
  clear hc hx
  go_enter Tryd.func44, Tryd.ntmps44
  go_wp2_with (go_at_call 43; refine HS.out.mono ?_; rintro e w1 ⟨v', rfl, h1, h2⟩)
  go_ret
  exact ⟨_, rfl, h1, h2⟩

set_option maxHeartbeats 2000000 in
theorem appFirst_any (g n u : Nat) (hu : u < 100) (xs : List Int) (hx : xs.length = n) (hn : n ≤ 1000) (w : World) (hc : ∀ j v, (xs.map (Value.int .u8))[j]? = some v → w.cell? ⟨g, j, none⟩ = some v) :
    Calls Tryd.prog 26 #[.slice (some ⟨g, 0, none⟩) n n, .int .i64 u, .int .i64 10] w fun e w' => ∃ v', e = .returned v' ∧ w'.ownsRow w.heap.size 5 1 v' (xs ++ itoaL u).length ((xs ++ itoaL u).map (Value.int .u8)) ∧ Below w.heap.size w w' := by
  have HS := Lib.hid (appI_first g n u hu xs hx hn w hc)
  have hd : itoaL (u : Int) = decL u := by rw [itoaL_pos (by omega)]; simp
  rw [hd]
  clear hc hx hd
  go_enter Tryd.func26, Tryd.ntmps26
  go_wp2_with (go_at_call 44; refine HS.out.mono ?_; rintro e w1 ⟨v', rfl, h1, h2⟩)
  go_ret
  exact ⟨_, rfl, h1, h2⟩
end Go.Proofs.YtfkodpglgeghlaaDoor
