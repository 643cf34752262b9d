/- strconv.AppendInt at base 10 onto the bytes of a constant string, of a number from 100 on. Conditions: the number is below a thousand millions; the table of powers of ten is as the program lays it. -/
import Derived.Test.YtfkodpglgeghlaaDoorAppI
import Derived.Lib.Slices
namespace Go.Proofs.YtfkodpglgeghlaaDoor
open Go.RowKit Go.Lib Go.Sort

set_option maxHeartbeats 12800000 in
set_option maxRecDepth 100000 in
theorem appU_big (g n u : Nat) (hu : 100 ≤ u) (hu2 : u < 1000000000) (xs : List Int) (hx : xs.length = n) (hn : n ≤ 1000) (w : World) (hc : ∀ j v, (xs.map (Value.int .u8))[j]? = some v → w.cell? ⟨g, j, none⟩ = some v) (hg : g < w.heap.size) (htab : Lib.TabIs Tryd.prog w "internal/strconv.uint64pow10" .u64 Lib.pow10Tab) :
    Calls Tryd.prog 43 #[.slice (some ⟨g, 0, none⟩) n n, .int .u64 u, .int .i64 10] w fun e w' => ∃ v', e = .returned v' ∧ w'.ownsRow w.heap.size 5 1 v' (xs ++ decL u).length ((xs ++ decL u).map (Value.int .u8)) ∧ Below w.heap.size w w' := by
  obtain ⟨i0, hi, hz0, hz1, hz2⟩ := info_parts infoU8
  have hu1 : 1 ≤ u := by omega
  have hu64 : u < 18446744073709551616 := by omega
  have hnd20 : Lib.nDigits u ≤ 20 := by have := Lib.numDigits_eq u hu1 hu64; split at this <;> omega
  have hnd1 : 1 ≤ Lib.nDigits u := by
    have := List.length_pos_iff.2 (dec_ok u).2.2
    have h2 : (decL u).length = Lib.nDigits u := by unfold decL; rw [List.length_map, Lib.decDigits_length]
    omega
  have hal : Tryd.prog.arrayLen 104 = 24 := by kernel_rfl
  have hsl : ∀ W, (Instr.sliceAt 104 (.pointer (some ⟨w.heap.size, 0, none⟩)) none (some (.int .i64 (Lib.nDigits u : Int))) none).run Tryd.prog W = .ok (.slice (some ⟨w.heap.size, 0, none⟩) (Lib.nDigits u) 24) W := fun W => by
    rw [run_sliceAt_array_h W 104 ⟨w.heap.size, 0, none⟩ (by simp [Program.arrayLen, Program.elem, Tryd.underlying104]) .i64 (Lib.nDigits u : Int) (by omega) (by rw [hal]; omega)]
    go_simp
  have hH0 := Lib.holds_zero0 w 104 (Lib.nDigits u) (by omega)
  have hfmt : Calls Tryd.prog 62 _ _ _ := Any.internal_strconv_formatBase10 (P := Tryd.prog) (ρ := Tryd.laysM176_ren) { Tryd.laysM176 with } w.heap.size 0 24 u (Array.replicate (Lib.nDigits u) 0) (w.alloc (.cells Lib.zeros24 104)) hH0 (by rw [Array.size_replicate]; exact Lib.lt_pow_nDigits u) hu64 (by rw [Array.size_replicate]; omega)
  rw [Array.size_replicate] at hfmt
  have HNUM : Hid (∀ W, Lib.TabIs Tryd.prog W "internal/strconv.uint64pow10" .u64 Lib.pow10Tab → Calls Tryd.prog 61 #[.int .u64 u] W fun e w' => e = .returned (.int .i64 (Lib.nDigits u : Int)) ∧ w' = W) := fun W hW => Any.internal_strconv_numDigits (P := Tryd.prog) (ρ := Tryd.laysM176_ren) { Tryd.laysM176 with } u hu1 hu64 W hW
  have HH0 := Lib.hid hH0
  have iu : (100 : Int) ≤ (u : Int) := by omega
  have hul : decide ((u : Int) < 100) = false := by simp; omega
  have HC := Lib.hid hc
  clear hH0 hal hc
  go_enter Tryd.func43, Tryd.ntmps43
  go_wp2_with (go_at_call 61; refine (HNUM.out _ (Lib.tabIs_alloc htab _)).mono ?_; rintro e w' ⟨rfl, rfl⟩)
  go_at_call 62
  refine hfmt.mono ?_
  rintro e w' ⟨rfl, k, v', dk, rfl, hF⟩
  have hcells : ∀ j u', (Lib.byteCells (Lib.decDigits u))[j]? = some u' → ((putRow (fun (b : UInt8) => Value.int .u8 (b.toNat : Int)) (w.alloc (.cells Lib.zeros24 104)) w.heap.size 0 dk).drewN k).cell? ((⟨w.heap.size, 0, none⟩ : Addr).add j) = some u' := by
    intro j u' hj
    have hjl : j < (Lib.decDigits u).length := by
      have h5 := (List.getElem?_eq_some_iff.1 hj).1
      rwa [Lib.byteCells_length] at h5
    have e5 : (Lib.byteCells (Lib.decDigits u))[j]? = some (Value.int .u8 ((Lib.decDigits u)[j].toNat : Int)) := by simp [Lib.byteCells, hjl]
    rw [e5] at hj
    cases hj
    rw [Lib.row_is_numeral hF j hjl, Lib.add_plain, World.cell?_drewN]
    exact cell?_putRow (fun (b : UInt8) => Value.int .u8 (b.toNat : Int)) _ w.heap.size 0 _ dk HH0.out (by rw [hF.size, Array.size_replicate]) j (by rw [hF.size]; rw [Lib.decDigits_length] at hjl; exact hjl)
  obtain ⟨os, eo⟩ := Lib.fin_at w (.cells Lib.zeros24 104) dk k 0
  have hnx2 : Below w.heap.size w ((putRow (fun (b : UInt8) => Value.int .u8 (b.toNat : Int)) (w.alloc (.cells Lib.zeros24 104)) w.heap.size 0 dk).drewN k) := by rw [eo]; exact Lib.below_grow w.heap.size w (Nat.le_refl _) k os
  have hsz2 : w.heap.size ≤ ((putRow (fun (b : UInt8) => Value.int .u8 (b.toNat : Int)) (w.alloc (.cells Lib.zeros24 104)) w.heap.size 0 dk).drewN k).heap.size := by rw [eo]; exact Lib.size_grow w k os
  generalize (putRow (fun (b : UInt8) => Value.int .u8 (b.toNat : Int)) (w.alloc (.cells Lib.zeros24 104)) w.heap.size 0 dk).drewN k = W2 at hcells hnx2 hsz2 ⊢
  clear eo HH0 hfmt
  have ha : ∀ k, (⟨g, 0, none⟩ : Addr).add k = ⟨g, k, none⟩ := fun k => by unfold Addr.add; split <;> simp_all
  have hold : ∀ j v, (xs.map (Value.int .u8))[j]? = some v → W2.cell? ((⟨g, 0, none⟩ : Addr).add j) = some v := fun j v hj => by rw [ha]; exact (hnx2.cell (p := ⟨g, j, none⟩) hg).trans (HC.out j v hj)
  go_wp2_with (at_builtin; refine wpList_append_grows W2 rfl _ _ 23 rfl 5 i0 (.int .u8 0) 1 1 Tryd.underlying23 hi hz0 hz1 hz2 rfl (by decide) (some ⟨g, 0, none⟩) n n (xs.map (Value.int .u8)) rfl (fun e => by cases e) (by simp [hx]) (fun b hb j v hj => by cases hb; exact hold j v hj) ⟨w.heap.size, 0, none⟩ (Lib.nDigits u) 24 (Lib.byteCells (Lib.decDigits u)) rfl ?c0 hcells ?c2 (by omega) (by unfold maxLen; omega) (by omega) ?_)
  case c0 => rw [Lib.byteCells_length, Lib.decDigits_length, Nat.mul_one]
  case c2 => intro u' hu'; simp only [Lib.byteCells, List.mem_map] at hu'; obtain ⟨b, _, rfl⟩ := hu'; rfl
  intro v2 w3 hown' hgrow
  go_wp2
  go_ret
  have hd : (xs ++ decL u).length = n + Lib.nDigits u := by rw [List.length_append, hx]; unfold decL; rw [List.length_map, Lib.decDigits_length]
  have hm : (xs ++ decL u).map (Value.int .u8) = xs.map (Value.int .u8) ++ Lib.byteCells (Lib.decDigits u) := by rw [List.map_append]; unfold decL Lib.byteCells; rw [List.map_map]; rfl
  rw [hd, hm]
  exact ⟨v2, rfl, own_base hown' hsz2, hnx2.grown hgrow hsz2 (fun k hk => by cases hk)⟩

set_option maxHeartbeats 2000000 in
theorem appI_first2 (g n u : Nat) (hu2 : u < 1000000000) (xs : List Int) (hx : xs.length = n) (hn : n ≤ 1000) (w : World) (hc : ∀ j v, (xs.map (Value.int .u8))[j]? = some v → w.cell? ⟨g, j, none⟩ = some v) (hg : g < w.heap.size) (htab : Lib.TabIs Tryd.prog w "internal/strconv.uint64pow10" .u64 Lib.pow10Tab) :
    Calls Tryd.prog 44 #[.slice (some ⟨g, 0, none⟩) n n, .int .i64 u, .int .i64 10] w fun e w' => ∃ v', e = .returned v' ∧ w'.ownsRow w.heap.size 5 1 v' (xs ++ decL u).length ((xs ++ decL u).map (Value.int .u8)) ∧ Below w.heap.size w w' := by
  have HS : Hid (Calls Tryd.prog 43 #[.slice (some ⟨g, 0, none⟩) n n, .int .u64 u, .int .i64 10] w fun e w' => ∃ v', e = .returned v' ∧ w'.ownsRow w.heap.size 5 1 v' (xs ++ decL u).length ((xs ++ decL u).map (Value.int .u8)) ∧ Below w.heap.size w w') := by
    by_cases h : u < 100
    · exact appU_first g n u h xs hx hn w hc
    · exact appU_big g n u (by omega) hu2 xs hx hn w hc hg htab
  have hub : decide ((u : Int) < 0) = false := by simp
  have hwr : IntKind.u64.wrap (u : Int) = u := by rw [IntKind.wrap_u64]; omega
  clear hc hx htab
  go_enter Tryd.func44, Tryd.ntmps44
  go_wp2_with (go_at_call 43; refine HS.out.mono ?_; rintro e w1 ⟨v', rfl, h1, h2⟩)
  go_ret
  exact ⟨_, rfl, h1, h2⟩

set_option maxHeartbeats 2000000 in
theorem appFirst2_any (g n u : Nat) (hu2 : u < 1000000000) (xs : List Int) (hx : xs.length = n) (hn : n ≤ 1000) (w : World) (hc : ∀ j v, (xs.map (Value.int .u8))[j]? = some v → w.cell? ⟨g, j, none⟩ = some v) (hg : g < w.heap.size) (htab : Lib.TabIs Tryd.prog w "internal/strconv.uint64pow10" .u64 Lib.pow10Tab) :
    Calls Tryd.prog 26 #[.slice (some ⟨g, 0, none⟩) n n, .int .i64 u, .int .i64 10] w fun e w' => ∃ v', e = .returned v' ∧ w'.ownsRow w.heap.size 5 1 v' (xs ++ itoaL u).length ((xs ++ itoaL u).map (Value.int .u8)) ∧ Below w.heap.size w w' := by
  have HS := Lib.hid (appI_first2 g n u hu2 xs hx hn w hc hg htab)
  have hd : itoaL (u : Int) = decL u := by rw [itoaL_pos (by omega)]; simp
  rw [hd]
  clear hc hx hd htab
  go_enter Tryd.func26, Tryd.ntmps26
  go_wp2_with (go_at_call 44; refine HS.out.mono ?_; rintro e w1 ⟨v', rfl, h1, h2⟩)
  go_ret
  exact ⟨_, rfl, h1, h2⟩
end Go.Proofs.YtfkodpglgeghlaaDoor
