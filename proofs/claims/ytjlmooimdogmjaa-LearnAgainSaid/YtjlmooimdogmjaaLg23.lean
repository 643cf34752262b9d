/- An append of zero values to a row of the call's own, room or none. No conditions beyond those typed. · Contracts of the small methods of skolemref1.Assign: Value, Set, over values in memory. Conditions: the literals lie strictly inside the 64 bits. · Contracts of assign.New and skolemref1.NewAssign: values of so many variables, none known. Conditions: none beyond 64 bits. -/
import Derived.Test.YtjlmooimdogmjaaLg17
import Derived.Lib.AppendZerosOnto
import Derived.Test.YtjlmooimdogmjaaLg02
set_option linter.unusedVariables false
set_option linter.unusedSimpArgs false
namespace Go.Proofs.Ytjlmooimdogmjaa
open Go.RowKit

theorem run_app_zeros (w : World) (T tn ty E : TypeId) (i : TypeInfo) (z : Value) (kn : IntKind) (size : Nat) (ht : Try.prog.underlying T = some (.slice E)) (htn : Try.prog.underlying tn = some (.int kn)) (hi : Try.prog.info? E = some i) (hz : i.zero = some z) (hs : i.size = size) (hzs : z.cells.size = size) (hsz : 0 < size) (hby : i.bytes ≤ 1000)
    (h1 : ∀ u ∈ z.cells.toList, u.oneCell' = true) (g n cap : Nat) (xs : List Value) (ho : w.ownsRow 0 E size (.slice (some ⟨g, 0, none⟩) n cap) n xs) (k : Nat) (h0 : 0 < k) (hk : n + k ≤ 100000) :
    ∃ v' w', (Builtin.append_ #[T, tn] ty #[.slice (some ⟨g, 0, none⟩) n cap, .int .i64 (k : Int)]).run Try.prog w = .ok v' w' ∧ w'.ownsRow 0 E size v' (n + k) (xs ++ (Builtin.zeroCells z.cells k).toList) ∧ App 0 w w' (.slice (some ⟨g, 0, none⟩) n cap) v' ∧ ∃ g' cap', v' = .slice (some ⟨g', 0, none⟩) (n + k) cap' := by
  subst hs
  have hzl : (Builtin.zeroCells z.cells k).toList.length = k * i.size := by rw [Array.length_toList, size_zeroCells, hzs]
  have hlen : (xs ++ (Builtin.zeroCells z.cells k).toList).length = (n + k) * i.size := by rw [List.length_append, ho.1, hzl, Nat.add_mul]
  have hone : ∀ u ∈ (Builtin.zeroCells z.cells k).toList, u.oneCell' = true := fun u hu => by
    unfold Builtin.zeroCells at hu
    simp only [Array.toList_map, List.mem_map] at hu
    obtain ⟨q, _, rfl⟩ := hu
    have hq : q % z.cells.size < z.cells.size := Nat.mod_lt _ (by omega)
    rw [getElem!_pos z.cells _ hq]
    exact h1 _ (Array.getElem_mem_toList hq)
  rcases ho.2 with ⟨e0, _⟩ | ⟨g', cap', cur, e0, hb, hg, hnc, hcm, hcs, htk⟩
  · cases e0
  · injection e0 with e1 _ e3
    injection e1 with e1
    injection e1 with e1
    subst e1; subst e3
    have hkn : k ≠ 0 := by omega
    have hw : IntKind.i64.wrap (k : Int) = k := by rw [IntKind.wrap_i64]; omega
    have hneg : ¬ ((k : Int) < 0) := by omega
    have hns : ¬ (k * i.size = 0) := Nat.mul_ne_zero hkn (by omega)
    have h48 : k * i.bytes ≤ 281474976710656 := by
      have := Nat.mul_le_mul (show k ≤ 100000 by omega) hby
      omega
    have h48i : ¬ (281474976710656 < (k : Int) * (i.bytes : Int)) := by
      rw [← Int.natCast_mul]
      omega
    by_cases hroom : n + k ≤ cap
    · have hfit : n * i.size + (Builtin.zeroCells z.cells k).toList.length ≤ cur.size := by rw [hzl, hcs, ← Nat.add_mul]; exact Nat.mul_le_mul_right _ hroom
      have hst := run_storeCells_at Try.prog g (n * i.size) E (Builtin.zeroCells z.cells k).toList 0 cur w hg (by simpa using hfit) hone
      simp only [Nat.add_zero] at hst
      refine ⟨.slice (some ⟨g, 0, none⟩) (n + k) cap, w.setRow g (cur.toList.take (n * i.size) ++ (Builtin.zeroCells z.cells k).toList ++ cur.toList.drop (n * i.size + (Builtin.zeroCells z.cells k).toList.length)).toArray, ?_, ⟨hlen, .inr ⟨g, cap, _, rfl, Nat.zero_le _, setRow_heap w g cur _ E _ hg, hroom, hcm, ?_, ?_⟩⟩, ?_, ⟨g, cap, rfl⟩⟩
      · simp [Builtin.append_, run_underlying ht, run_underlying htn, sizeOf, typeInfo, zeroValue, hi, hz, asInt, asIntOf, hw, hneg, hns, h48i, hroom, Addr.add_lit]
        first
          | exact hst
          | (rw [hst]; rfl)
          | simp [hst]
      · have hf2 : n * i.size + (Builtin.zeroCells z.cells k).size ≤ cur.size := by rw [Array.length_toList] at hfit; exact hfit
        simp only [List.size_toArray, List.length_append, List.length_take, List.length_drop, Array.length_toList]
        omega
      · rw [htk, ← hlen]
        exact List.take_left
      · exact ⟨⟨rfl, rfl, rfl, by simp [World.setRow], fun q hq => absurd hq (Nat.not_lt_zero _)⟩, fun q _ hq => setRow_other w g q _ (fun e => hq (by simp [Value.ownBlock, e])), .inl rfl⟩
    · have hold : (Builtin.firstCells i.size n (.slice (some ⟨g, 0, none⟩) n cap)).run Try.prog w.drew = .ok xs.toArray w.drew := run_firstCells_some (P := Try.prog) w.drew i.size n ⟨g, 0, none⟩ n cap xs ho.1 (fun j u hj => ho.cells (g := g) rfl j u hj)
      have hnx : Builtin.nextslicecap (n + k) cap * i.bytes ≤ 281474976710656 := by
        have h2 := growslice_fits (show cap < n + k by omega) (show (n + k) * i.bytes ≤ 140737488355328 by
          have := Nat.mul_le_mul hk hby
          omega)
        exact h2
      have hrun := Lib.run_append_grow_zeros (P := Try.prog) w T tn ty E i z .i64 kn ht htn hi hz (some ⟨g, 0, none⟩) n cap xs hold k h0 hsz (by omega) (by omega) h48 hnx
      have hge := grownCap_ge w (n + k) cap E
      have hcm2 : grownCap w (n + k) cap E ≤ maxLen := grownCap_le_maxLen w (n + k) cap E (by unfold maxLen; omega)
      refine ⟨_, _, hrun, ⟨hlen, .inr ⟨w.heap.size, _, _, rfl, Nat.zero_le _, heap_alloc_new w.drew _, hge, hcm2, ?_, ?_⟩⟩, ⟨⟨rfl, rfl, rfl, by simp, fun q hq => absurd hq (Nat.not_lt_zero _)⟩, fun q hq _ => (World.grownBy_alloc w.drew _ none).block q hq (by simp), .inr ⟨w.heap.size, rfl, Nat.le_refl _⟩⟩, ⟨_, _, rfl⟩⟩
      · generalize grownCap w (n + k) cap E = C at *
        rw [Array.size_append, Array.size_append, List.size_toArray, size_zeroCells, size_zeroCells, hzs, ho.1, ← Nat.add_mul, ← Nat.add_mul, show n + k + (C - (n + k)) = C by omega]
      · simp only [Array.toList_append, List.append_assoc]
        rw [← List.append_assoc, ← hlen]
        exact List.take_left
/-- 'append(v, make([]T, k)...)' at the operation. -/
theorem wpList_app_zeros {ops : Array Oper} {rest : List Oper} {o : Oper} {a : Act} {Q : Exit → Act → World → Prop} (hgd : o.guard = none) (s x : Operand) (w : World) (T tn E : TypeId) (ho : o.op = .call { callee := .builtin .append, args := #[s, x], argTypes := #[T, tn] })
    (i : TypeInfo) (z : Value) (kn : IntKind) (size : Nat) (ht : Try.prog.underlying T = some (.slice E)) (htn : Try.prog.underlying tn = some (.int kn)) (hi : Try.prog.info? E = some i) (hz : i.zero = some z) (hs : i.size = size) (hzs : z.cells.size = size) (hsz : 0 < size) (hby : i.bytes ≤ 1000)
    (h1 : ∀ u ∈ z.cells.toList, u.oneCell' = true) (g n cap : Nat) (xs : List Value) (hown : w.ownsRow 0 E size (.slice (some ⟨g, 0, none⟩) n cap) n xs) (k : Nat) (h0 : 0 < k) (hk : n + k ≤ 100000) (hes : a.eval s = .slice (some ⟨g, 0, none⟩) n cap) (hex : a.eval x = .int .i64 (k : Int))
    (h : ∀ g' cap' w', w'.ownsRow 0 E size (.slice (some ⟨g', 0, none⟩) (n + k) cap') (n + k) (xs ++ (Builtin.zeroCells z.cells k).toList) → App 0 w w' (.slice (some ⟨g, 0, none⟩) n cap) (.slice (some ⟨g', 0, none⟩) (n + k) cap') → wpList Try.prog ops Q rest (a.put o.dst (.slice (some ⟨g', 0, none⟩) (n + k) cap')) w') :
    wpList Try.prog ops Q (o :: rest) a w := by
  obtain ⟨v', w', hr, k1, k2, g', cap', rfl⟩ := run_app_zeros w T tn o.type E i z kn size ht htn hi hz hs hzs hsz hby h1 g n cap xs hown k h0 hk
  exact Lib.wpList_append_run w hgd s x T tn ho _ _ hes hex _ w' hr (h g' cap' w' k1 k2)
end Go.Proofs.Ytjlmooimdogmjaa

namespace Go.Proofs.Ytjlmooimdogmjaa
open Go.RowKit

theorem refIsB (V : List Int) (l : Int) : isB ((V.length : Int) - 1) l = rightB V l := isB_right V l

set_option maxHeartbeats 1000000 in
theorem refValue_any {w : World} {B : Nat} {v : Value} {p q : Nat} {V : List Int} (h : Asg w B v p q V) (l : Int) (h1 : -9223372036854775807 ≤ l) (h2 : l ≤ 9223372036854775807) :
    Calls Try.prog 77 #[v, .int .i64 l] w fun e w' => e = .returned (.int .i64 (valL V l)) ∧ ∃ n, w' = w.drewN n := by
  have hlen := h.vals.len
  have hpos := h.vals.pos
  have H := Lib.hid (refIs_any l ((V.length : Int) - 1) w h1 h2 (by omega) (by omega))
  have HB := Lib.hid (refIsB V l)
  have HAb := Lib.hid (fun W => abs_any l W h1 h2)
  have g0 := h.head
  have HC := Lib.hid h.cells
  have h3 := h.vals.three (plc l)
  obtain rfl := h.val
  clear h
  by_cases hr : rightB V l = true
  · have HV := Lib.hid (show valL V l = if 0 < l then V.getD (plc l) 0 else opp (V.getD (plc l) 0) by unfold valL; rw [if_pos hr])
    rw [HB.out, hr] at H
    rw [rightB_iff] at hr
    obtain ⟨hr1, hr2⟩ := hr
    rw [opp_sub h3] at HV
    have g1 := HC.out _ hr2
    have e := plc_absI l
    rw [← e] at HAb
    clear HB
    have hz : l ≠ 0 := fun e => by subst e; rw [plc_zero] at hr1; omega
    generalize plc l = m at *
    clear e
    generalize hx : V.getD m 0 = x at *
    clear hx
    generalize V.length = n at *
    by_cases hl : 0 < l
    · have hl' : ¬ l < 0 := by omega
      rw [if_pos hl] at HV
      clear h3
      go_enter Try.func77, Try.ntmps77
      go_wp2_with (go_at_call 22; refine H.out.mono ?_; rintro e w' ⟨rfl, rfl⟩)
      go_quiet ((go_at_call 13; refine (HAb.out _).mono ?_; rintro e w' ⟨rfl, rfl⟩; exact ⟨rfl, _, rfl⟩))
      go_wp2
      go_ret
      exact ⟨ret_int HV.out.symm, _, rfl⟩
    · have hl' : l < 0 := by omega
      rw [if_neg hl] at HV
      clear hl hz
      by_cases hx0 : x = 0
      · subst hx0
        rw [if_pos rfl] at HV
        clear h3
        go_enter Try.func77, Try.ntmps77
        go_wp2_with (go_at_call 22; refine H.out.mono ?_; rintro e w' ⟨rfl, rfl⟩)
        go_quiet ((go_at_call 13; refine (HAb.out _).mono ?_; rintro e w' ⟨rfl, rfl⟩; exact ⟨rfl, _, rfl⟩))
        go_wp2
        go_ret
        exact ⟨ret_int HV.out.symm, _, rfl⟩
      · rw [if_neg hx0] at HV
        have hxb : (x != 0) = true := by simp [hx0]
        have hx1 : 0 ≤ x := by omega
        have hx2 : x ≤ 2 := by omega
        clear h3 hx0
        go_enter Try.func77, Try.ntmps77
        go_wp2_with (go_at_call 22; refine H.out.mono ?_; rintro e w' ⟨rfl, rfl⟩)
        go_quiet ((go_at_call 13; refine (HAb.out _).mono ?_; rintro e w' ⟨rfl, rfl⟩; exact ⟨rfl, _, rfl⟩))
        go_wp2
        go_ret
        exact ⟨ret_int HV.out.symm, _, rfl⟩
  · have hr' : rightB V l = false := by simpa using hr
    rw [HB.out, hr'] at H
    rw [valL_not hr']
    clear hr hr' HB h3
    generalize V.length = n at *
    go_enter Try.func77, Try.ntmps77
    go_wp2_with (go_at_call 22; refine H.out.mono ?_; rintro e w' ⟨rfl, rfl⟩)
    go_ret
    exact ⟨rfl, 0, rfl⟩

theorem Asg.drewN {w : World} {B : Nat} {v : Value} {p q : Nat} {V : List Int} (h : Asg w B v p q V) (n : Nat) : Asg (w.drewN n) B v p q V := h.keep (below_draws ⟨n, rfl⟩)

set_option maxHeartbeats 1000000 in
theorem refSet_any {w : World} {B : Nat} {v : Value} {p q : Nat} {V : List Int} (h : Asg w B v p q V) (l : Int) (h1 : -9223372036854775807 ≤ l) (h2 : l ≤ 9223372036854775807) :
    Calls Try.prog 54 #[v, .int .i64 l] w (SetPost w B v p q V l) := by
  have hlen := h.vals.len
  have hpos := h.vals.pos
  have H := Lib.hid (refIs_any l ((V.length : Int) - 1) w h1 h2 (by omega) (by omega))
  have HB := Lib.hid (refIsB V l)
  have HV := Lib.hid (refValue_any h l h1 h2)
  have g0 := h.head
  have HC := Lib.hid h.cells
  have HF := Lib.hid h.free
  have HA := Lib.hid h
  obtain rfl := h.val
  clear h
  rw [HB.out] at H
  clear HB
  by_cases hr : rightB V l = true
  · have HR := Lib.hid hr
    rw [hr] at H
    rw [rightB_iff] at hr
    obtain ⟨hr1, hr2⟩ := hr
    by_cases hv : valL V l = 2
    · have HK := Lib.hid (show setOk V l = false by unfold setOk; rw [HR.out, hv]; rfl)
      rw [hv] at HV
      clear hv
      go_enter Try.func54, Try.ntmps54
      go_wp2_with (first | (go_at_call 22; refine H.out.mono ?_; rintro e w' ⟨rfl, rfl⟩) | (go_at_call 77; refine HV.out.mono ?_; rintro e w' ⟨rfl, nn, rfl⟩))
      go_ret
      exact ⟨ret_bool HK.out.symm, by unfold setV; rw [HK.out]; exact HA.out.drewN _, Only.of_below (below_draws ⟨_, rfl⟩)⟩
    · have HK := Lib.hid (show setOk V l = true by unfold setOk; rw [HR.out]; simp [hv])
      have hvb : (valL V l == 2) = false := by simp [hv]
      generalize valL V l = x at *
      have HS := Lib.hid (show setV V l = V.set (plc l) (if 0 < l then 1 else 2) by unfold setV; rw [HK.out]; rfl)
      have HN := Lib.hid (fun (nn : Nat) (y : Int) hy => (HA.out.drewN nn).set (plc l) y hr2 (fun e => by omega) hy)
      have g1 := HC.out _ hr2
      have g2 := HF.out (plc l)
      by_cases hl : 0 < l
      · have hm := plc_pos hl
        rw [if_pos hl] at HS
        generalize plc l = m at *
        subst hm
        clear hv
        generalize V.getD m 0 = y at *
        go_enter Try.func54, Try.ntmps54
        go_wp2_with (first | (go_at_call 22; refine H.out.mono ?_; rintro e w' ⟨rfl, rfl⟩) | (go_at_call 77; refine HV.out.mono ?_; rintro e w' ⟨rfl, nn, rfl⟩))
        go_ret
        exact ⟨ret_bool HK.out.symm, by rw [HS.out]; exact HN.out _ 1 (by simp), (Only.of_below (below_draws ⟨_, rfl⟩)).trans (Only.setCell _ _ _ _)⟩
      · have hl' : l < 0 := by
          have : l ≠ 0 := fun e => by subst e; rw [plc_zero] at hr1; omega
          omega
        have hm := plc_neg hl'
        rw [if_neg hl] at HS
        generalize plc l = m at *
        obtain rfl : l = -(m : Int) := by omega
        clear hm hv
        generalize V.getD m 0 = y at *
        go_enter Try.func54, Try.ntmps54
        go_wp2_with (first | (go_at_call 22; refine H.out.mono ?_; rintro e w' ⟨rfl, rfl⟩) | (go_at_call 77; refine HV.out.mono ?_; rintro e w' ⟨rfl, nn, rfl⟩))
        go_ret
        exact ⟨ret_bool HK.out.symm, by rw [HS.out]; exact HN.out _ 2 (by simp), (Only.of_below (below_draws ⟨_, rfl⟩)).trans (Only.setCell _ _ _ _)⟩
  · have hr' : rightB V l = false := by simpa using hr
    have HK := Lib.hid (setOk_right hr')
    rw [hr'] at H
    clear hr hr'
    go_enter Try.func54, Try.ntmps54
    go_wp2_with (go_at_call 22; refine H.out.mono ?_; rintro e w' ⟨rfl, rfl⟩)
    go_ret
    exact ⟨ret_bool HK.out.symm, by unfold setV; rw [HK.out]; exact HA.out, Only.refl _ _⟩

end Go.Proofs.Ytjlmooimdogmjaa

namespace Go.Proofs.Ytjlmooimdogmjaa
open Go.RowKit

theorem asg_made {w w1 : World} {n : Nat} {T : TypeId} (hown : w1.ownsRow w.heap.size 3 1 (.slice (some ⟨w.heap.size, 0, none⟩) n n) n ((List.replicate n (0 : Int)).map (Value.int .i64))) (hs : w.heap.size < w1.heap.size) (h1 : 0 < n) (h2 : n ≤ 4001) :
    Asg (w1.alloc (.cells #[.slice (some ⟨w.heap.size, 0, none⟩) n n] T)) w.heap.size (.pointer (some ⟨w1.heap.size, 0, none⟩)) w1.heap.size w.heap.size (List.replicate n 0) := by
  obtain ⟨_, a, c, e, hc1, hc2, hr⟩ : _ ∧ Row w1 _ _ := ⟨trivial, own_row hown⟩
  obtain ⟨b, off, ha, hb, hcell⟩ := hr.resolve_left (by simp; omega)
  injection e with e1 e2 e3
  rw [ha] at e1
  injection e1 with e1
  injection e1 with e4 e5
  subst e4; subst e5
  have hold : (w1.alloc (.cells #[.slice (some ⟨w.heap.size, 0, none⟩) n n] T)).heap[w.heap.size]? = w1.heap[w.heap.size]? := Below.heap_alloc _ _ _ hs
  refine ⟨rfl, by omega, by omega, by omega, by simp, by simp; omega, ⟨by simpa using h1, by simpa using h2, by simp [List.getD, List.getElem?_replicate]; split <;> rfl, fun i => .inl (by simp only [List.getD, List.getElem?_replicate]; split <;> rfl)⟩, ?_, ?_, ?_⟩
  · rw [List.length_replicate]
    have : (w1.alloc (.cells #[.slice (some ⟨w.heap.size, 0, none⟩) n n] T)).heap[w1.heap.size]? = some (.cells #[.slice (some ⟨w.heap.size, 0, none⟩) n n] T) := (MapKept.heap_alloc w1 _).1
    simp only [World.cell?, this]
    rfl
  · intro i hi
    rw [World.cell?_of_block (a := ⟨w.heap.size, i, none⟩) hold]
    have := hcell i hi
    rwa [Nat.zero_add] at this
  · intro i
    rw [World.frozen?_of_block (a := ⟨w.heap.size, i, none⟩) hold]
    rcases hown.2 with ⟨e0, _⟩ | ⟨g, cap, cur, e0, _, hg, _⟩
    · cases e0
    · injection e0 with e0 _ _
      injection e0 with e0
      injection e0 with e0
      subst e0
      simp [World.frozen?, hg]

def NewPost (w : World) (n : Int) (e : Ending) (w' : World) : Prop := ∃ p q, e = .returned (.pointer (some ⟨p, 0, none⟩)) ∧ Asg w' w.heap.size (.pointer (some ⟨p, 0, none⟩)) p q (newV n) ∧ Below w.heap.size w w'

theorem newV_of {n : Int} {m : Nat} (h : min (max n 0) 4000 + 1 = (m : Int)) : newV n = List.replicate m 0 := by unfold newV; rw [h]; rfl

set_option maxHeartbeats 1000000 in
theorem new_any (n : Int) (w : World) (hn1 : -9223372036854775808 ≤ n) (hn2 : n ≤ 9223372036854775807) :
    Calls Try.prog 57 #[.int .i64 n] w (NewPost w n) := by
  obtain ⟨m, hm⟩ : ∃ m : Nat, min (max n 0) 4000 + 1 = (m : Int) := ⟨(min (max n 0) 4000 + 1).toNat, by omega⟩
  have HV := Lib.hid (newV_of hm)
  have hm1 : 0 < m := by omega
  have hm2 : m ≤ 4001 := by omega
  by_cases hlo : n < 0
  · have hm : m = 1 := by omega
    subst hm
    go_enter Try.func57, Try.ntmps57
    go_wp2_with (at_make; refine wpList_makeN rfl _ _ rfl _ 1 rfl rfl (by omega) ?_; intro w1 hown hb hs)
    go_ret
    exact ⟨_, _, rfl, by rw [HV.out]; exact asg_made hown hs hm1 hm2, hb.alloc (by omega) _⟩
  · by_cases hhi : 4000 < n
    · have hm : m = 4001 := by omega
      subst hm
      go_enter Try.func57, Try.ntmps57
      go_wp2_with (at_make; refine wpList_makeN rfl _ _ rfl _ 4001 rfl rfl (by omega) ?_; intro w1 hown hb hs)
      go_ret
      exact ⟨_, _, rfl, by rw [HV.out]; exact asg_made hown hs hm1 hm2, hb.alloc (by omega) _⟩
    · obtain ⟨k, rfl⟩ : ∃ k : Nat, n = (k : Int) := ⟨n.toNat, by omega⟩
      have hm : m = k + 1 := by omega
      subst hm
      go_enter Try.func57, Try.ntmps57
      go_wp2_with (at_make; refine wpList_makeN rfl _ _ rfl _ (k + 1) rfl rfl (by omega) ?_; intro w1 hown hb hs)
      go_ret
      exact ⟨_, _, rfl, by rw [HV.out]; exact asg_made hown hs hm1 hm2, hb.alloc (by omega) _⟩

set_option maxHeartbeats 1000000 in
theorem refNew_any (n : Int) (w : World) (hn1 : -9223372036854775808 ≤ n) (hn2 : n ≤ 9223372036854775807) :
    Calls Try.prog 53 #[.int .i64 n] w (NewPost w n) := by
  obtain ⟨m, hm⟩ : ∃ m : Nat, min (max n 0) 4000 + 1 = (m : Int) := ⟨(min (max n 0) 4000 + 1).toNat, by omega⟩
  have HV := Lib.hid (newV_of hm)
  have hm1 : 0 < m := by omega
  have hm2 : m ≤ 4001 := by omega
  by_cases hlo : n < 0
  · have hm : m = 1 := by omega
    subst hm
    go_enter Try.func53, Try.ntmps53
    go_wp2_with (at_make; refine wpList_makeN rfl _ _ rfl _ 1 rfl rfl (by omega) ?_; intro w1 hown hb hs)
    go_ret
    exact ⟨_, _, rfl, by rw [HV.out]; exact asg_made hown hs hm1 hm2, hb.alloc (by omega) _⟩
  · by_cases hhi : 4000 < n
    · have hm : m = 4001 := by omega
      subst hm
      go_enter Try.func53, Try.ntmps53
      go_wp2_with (at_make; refine wpList_makeN rfl _ _ rfl _ 4001 rfl rfl (by omega) ?_; intro w1 hown hb hs)
      go_ret
      exact ⟨_, _, rfl, by rw [HV.out]; exact asg_made hown hs hm1 hm2, hb.alloc (by omega) _⟩
    · obtain ⟨k, rfl⟩ : ∃ k : Nat, n = (k : Int) := ⟨n.toNat, by omega⟩
      have hm : m = k + 1 := by omega
      subst hm
      go_enter Try.func53, Try.ntmps53
      go_wp2_with (at_make; refine wpList_makeN rfl _ _ rfl _ (k + 1) rfl rfl (by omega) ?_; intro w1 hown hb hs)
      go_ret
      exact ⟨_, _, rfl, by rw [HV.out]; exact asg_made hown hs hm1 hm2, hb.alloc (by omega) _⟩
end Go.Proofs.Ytjlmooimdogmjaa
