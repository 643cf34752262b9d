/- The walk of skolemlaw3.WordBits: it answers true. Conditions: the slice reads as bools; the numbers are 64-bit ints and bytes. -/
import Derived.Test.YtijdangaffnckaaWRow
import Derived.Test.YtijdangaffnckaaAppStr
import Derived.Test.YtijdangaffnckaaSmall
import Derived.Test.YtijdangaffnckaaOpenG
import Derived.Deep.QuietTactic
import Derived.BigQuiet
import Derived.RegionTactic
import Derived.WalkSmall
import Derived.Deep.Draws
namespace Go.Proofs.Ytijdangaffnckaa
open Go.RowKit

def bitOf (b : Bool) : Int := if b then 49 else 48
theorem bitOf_bts (l : List Bool) : Bts (l.map bitOf) := fun x hx => by
  obtain ⟨b, _, rfl⟩ := List.mem_map.1 hx
  cases b <;> simp [bitOf]
theorem bitOf_all (l : List Bool) : (l.map bitOf).all bitB = true := by
  rw [List.all_eq_true]
  intro x hx
  obtain ⟨b, _, rfl⟩ := List.mem_map.1 hx
  cases b <;> rfl
theorem bitOf_back (l : List Bool) : bitsL (l.map bitOf) = l := by
  unfold bitsL
  rw [bitOf_all, if_pos rfl, List.map_map]
  have : ((fun x : Int => x == 49) ∘ bitOf) = id := by funext b; cases b <;> rfl
  rw [this, List.map_id]
theorem set_all (l : List Bool) (j : Nat) (c : Int) (hj : j < l.length) : ((l.map bitOf).set j c).all bitB = bitB c := by
  cases h : bitB c with
  | true =>
    rw [List.all_eq_true]
    intro x hx
    rcases List.mem_or_eq_of_mem_set hx with h' | rfl
    · exact List.all_eq_true.1 (bitOf_all l) x h'
    · exact h
  | false =>
    rw [List.all_eq_false]
    exact ⟨c, List.mem_set (by simpa using hj) c, by simp [h]⟩
/-- 'string(b)' of a row of the call's own. -/
theorem conv_own {w : World} {B : Nat} {e : TypeId} {v : Value} {n : Nat} {xs : List Int} (h : w.ownsRow B e 1 v n (xs.map (Value.int .u8))) : (convert 22 9 v).run Try.prog w = .ok (.string (strOfNums xs)) w := by
  have hl : xs.length = n := by simpa using h.1
  rcases h.2 with ⟨e0, e1⟩ | ⟨g, cap, cur, hv, hb, hg, hn, hm, hs, ht⟩
  · subst e0; subst e1
    have hx : xs = [] := List.eq_nil_of_length_eq_zero hl
    subst hx
    exact run_convert_bytes_nil w 22 5 Try.underlying22 Try.underlying5 0 0 9 Try.underlying9
  · subst hv
    refine run_convert_bytes_arg w 22 5 Try.underlying22 Try.underlying5 g 0 n cap xs hl (fun i hi => ?_) 9 Try.underlying9
    have := h.cells (g := g) rfl i (.int .u8 (xs.getD i 0)) (by simp [List.getD, show i < xs.length by omega])
    rw [Nat.zero_add]
    rwa [show (⟨g, 0, none⟩ : Addr).add i = ⟨g, i, none⟩ by unfold Addr.add; split <;> simp_all] at this

theorem conv_cel {w : World} {g n cap : Nat} {xs : List Int} (h : CelG (Value.int .u8) 0 w g xs) (hl : xs.length = n) : (convert 22 9 (.slice (some ⟨g, 0, none⟩) n cap)).run Try.prog w = .ok (.string (strOfNums xs)) w :=
  run_convert_bytes_arg w 22 5 Try.underlying22 Try.underlying5 g 0 n cap xs hl (fun i hi => by rw [Nat.zero_add]; exact h.cells i (by omega)) 9 Try.underlying9

set_option maxRecDepth 4000 in
set_option maxHeartbeats 4000000 in
theorem lawBits (a : Option Addr) (c : Nat) (l : List Bool) (at' y : Int) (w : World) (hv : RowGAt Value.bool false w a c l) (ha1 : -9223372036854775808 ≤ at') (ha2 : at' ≤ 9223372036854775807) (hy1 : 0 ≤ y) (hy2 : y ≤ 255) :
    Calls Try.prog 7 #[.slice a l.length c, .int .i64 at', .int .u8 y] w fun e w' => e = .returned (.bool true) ∧ Below w.heap.size w w' := by
  obtain ⟨hxc, hcm, hx⟩ := hv
  have hcm2 : c ≤ 9223372036854775807 := by unfold maxLen at hcm; omega
  clear hcm
  have HX := Lib.hid hx; clear hx
  generalize hN : l.length = n at *
  have HN := Lib.hid hN; clear hN
  by_cases hn : 40 < n
  · go_enter Try.func7, Try.ntmps7
    go_wp2_with (go_at_call 8; refine (first3_any _).mono ?_; rintro e w1 ⟨rfl, hb1⟩)
    go_ret
    exact ⟨rfl, hb1⟩
  · go_enter Try.func7, Try.ntmps7
    go_wp2_with (go_at_call 8; refine (first3_any _).mono ?_; rintro e w1 ⟨rfl, hb1⟩)
    go_loopw [8, 9, 10] (fun bv i _ wr => ∃ k : Nat, k ≤ n ∧ i = .int .i64 k ∧ wr.ownsRow w.heap.size 5 1 bv k (((l.take k).map bitOf).map (Value.int .u8)) ∧ Below w.heap.size w wr) (fun _ i _ _ => n - (intOf i).toNat)
    case atStart => exact ⟨0, Nat.zero_le _, rfl, World.ownsRow_nil _ _ _ _, hb1⟩
    case round =>
      obtain ⟨k, hk, rfl, hown, hbr⟩ := hrel
      have hBB := hbr.size
      by_cases hlt : k < n
      · obtain ⟨b, off, ha, hbl, hc⟩ := HX.out.resolve_left (by omega)
        subst ha
        have g1 : wr.cell? ⟨b, off + k, none⟩ = some (.bool (l.getD k false)) := (hbr.cell (p := ⟨b, off + k, none⟩) hbl).trans (hc k hlt)
        have HTK := Lib.hid (show (l.take (k + 1)).map bitOf = (l.take k).map bitOf ++ [bitOf (l.getD k false)] by
          have hkl : k < l.length := by rw [HN.out]; exact hlt
          have e : l.getD k false = l[k] := by simp [List.getD, hkl]
          rw [e, List.take_succ_eq_append_getElem hkl, List.map_append]; rfl)
        clear hc
        generalize l.getD k false = x at *
        cases x with
        | true =>
          go_wp2_with (at_builtin; refine wpList_app1G (Value.int .u8) _ _ _ 1 Try.underlying22 infoU8 rfl (by decide) rfl _ _ rfl wr w.heap.size _ k _ 49 rfl hown hBB (by omega) rfl rfl ?_; intro v2 w3 hown3 hap)
          go_roundw
          case rel => exact ⟨k + 1, by omega, by go_num, by rw [HTK.out]; exact hown3, hbr.trans hap.below⟩
          case measure => go_light; simp [intOf]; omega
        | false =>
          go_wp2_with (at_builtin; refine wpList_app1G (Value.int .u8) _ _ _ 1 Try.underlying22 infoU8 rfl (by decide) rfl _ _ rfl wr w.heap.size _ k _ 48 rfl hown hBB (by omega) rfl rfl ?_; intro v2 w3 hown3 hap)
          go_roundw
          case rel => exact ⟨k + 1, by omega, by go_num, by rw [HTK.out]; exact hown3, hbr.trans hap.below⟩
          case measure => go_light; simp [intOf]; omega
      · have hkn : k = n := by omega
        rw [show l.take k = l by rw [hkn, ← HN.out]; simp] at hown
        clear hlt hk
        subst hkn
        have hcv := conv_own hown
        have HBI := Lib.hid (bits_any (l.map bitOf) wr (bitOf_bts l) (by rw [List.length_map, HN.out]; omega))
        rw [show BitsPost wr (l.map bitOf) = fun e w' => ∃ v, e = .returned (.tuple #[v, .bool true]) ∧ RowG Value.bool false w' v l ∧ Below wr.heap.size wr w' by unfold BitsPost; rw [bitOf_all, bitOf_back]] at HBI
        obtain ⟨ab, cap, hbv, hc1, hc2⟩ := own_shape hown
        subst hbv
        have HOWN := Lib.hid hown; clear hown
        have HBR := Lib.hid hbr; clear hbr
        clear hc2 hb1
        rename World => wd
        go_wp2_with (go_at_call 13; refine HBI.out.mono ?_; rintro e w2 ⟨u, rfl, hr2, hb2⟩; obtain ⟨a2, c2, e2, hx2, hm2, hx3⟩ := hr2; rw [HN.out] at e2 hx2 hx3; subst e2; have HX3 := Lib.hid hx3; clear hx3 hm2; have HB2 := Lib.hid hb2; clear hb2)
        go_loopw [13] (fun i wr => ∃ j t : Nat, j ≤ k ∧ i = .int .i64 j ∧ wr = w2.drewN t) (fun i _ => k - (intOf i).toNat)
        case atStart => exact ⟨0, 0, Nat.zero_le _, rfl, rfl⟩
        case round =>
          obtain ⟨j, t, hj, rfl, rfl⟩ := hrel
          by_cases hlt : j < k
          · obtain ⟨b, off, ha, hbl, hc⟩ := HX.out.resolve_left (by omega)
            obtain ⟨b2, off2, ha2, hbl2, hc2⟩ := HX3.out.resolve_left (by omega)
            subst ha
            subst ha2
            have g1 : w2.cell? ⟨b, off + j, none⟩ = some (.bool (l.getD j false)) := ((HBR.out.trans (HB2.out.mono hBB)).cell (p := ⟨b, off + j, none⟩) hbl).trans (hc j hlt)
            have g2 : w2.cell? ⟨b2, off2 + j, none⟩ = some (.bool (l.getD j false)) := hc2 j hlt
            clear hc hc2
            generalize l.getD j false = x at *
            go_wp2_with fail
            go_quiet (fail)
            go_wp2
            go_roundw
            case rel => exact ⟨j + 1, _, by omega, by go_num, rfl⟩
            case measure => simp [intOf]; omega
          · have hjk : j = k := by omega
            have hwt : Below w.heap.size w (w2.drewN t) := below_drewN (HBR.out.trans (HB2.out.mono hBB)) t
            have hws : wd.heap.size ≤ (w2.drewN t).heap.size := by simpa using HB2.out.size
            have hb2t : Below wd.heap.size wd (w2.drewN t) := below_drewN HB2.out t
            clear hlt hj
            subst hjk
            generalize w2.drewN t = wt at *
            by_cases h0 : j = 0
            · go_wp2_with fail
              go_ret
              exact ⟨rfl, hwt⟩
            · obtain ⟨g, cap', e1, hg1, hg2, _, hcm3⟩ := own_some HOWN.out (by omega)
              injection e1 with e1 _ e3
              subst e1; subst e3
              have hC := (CelG.of_own (d := (0 : Int)) HOWN.out).keep hb2t
              have hjb : ((j : Int) == 0) = false := by simp [h0]
              have hm1 := Int.emod_nonneg at' (show (j : Int) ≠ 0 by omega)
              have hm2 := Int.emod_lt_of_pos at' (show 0 < (j : Int) by omega)
              have HNU := Lib.hid (number_any at' j wt (by omega) (by omega) ha1 ha2)
              obtain ⟨q, hq⟩ : ∃ q : Nat, at' % (j : Int) = q := ⟨(at' % (j : Int)).toNat, by omega⟩
              rw [hq] at HNU hm2
              clear hq hm1
              have hqj : q < j := by omega
              have hql : q < (l.map bitOf).length := by rw [List.length_map, HN.out]; exact hqj
              have gq := hC.cells q hql
              have gf := hC.free q
              have hC2 := Lib.hid (hC.set q y)
              have hlen : ((l.map bitOf).set q y).length = j := by rw [List.length_set, List.length_map, HN.out]
              have hbts : Bts ((l.map bitOf).set q y) := fun x hx => by
                rcases List.mem_or_eq_of_mem_set hx with h' | rfl
                · exact bitOf_bts l x h'
                · exact ⟨hy1, hy2⟩
              have hcv2 := conv_cel (cap := cap) hC2.out hlen
              have HBI2 := Lib.hid (bits_any ((l.map bitOf).set q y) (wt.setCell ⟨g, q, none⟩ (.int .u8 y)) hbts (by rw [hlen]; omega))
              have HAL := Lib.hid (set_all l q y (by rw [HN.out]; exact hqj))
              rw [show BitsPost (wt.setCell ⟨g, q, none⟩ (.int .u8 y)) ((l.map bitOf).set q y) = fun e w' => ∃ v, e = .returned (.tuple #[v, .bool (bitB y)]) ∧ RowG Value.bool false w' v (bitsL ((l.map bitOf).set q y)) ∧ Below (wt.setCell ⟨g, q, none⟩ (.int .u8 y)).heap.size (wt.setCell ⟨g, q, none⟩ (.int .u8 y)) w' by unfold BitsPost; rw [HAL.out]] at HBI2
              have HFI := Lib.hid (fun w4 (h4 : Below (wt.setCell ⟨g, q, none⟩ (.int .u8 y)).heap.size (wt.setCell ⟨g, q, none⟩ (.int .u8 y)) w4) => show Below w.heap.size w w4 from (hwt.setCell hg1 _).trans (h4.mono (by simpa [World.setCell] using hwt.size)))
              generalize (l.map bitOf).getD q 0 = z at *
              clear hC hlen hbts HOWN HX3 HBI hcv
              by_cases hy48 : y = 48
              · rw [show bitB y = true by rw [hy48]; rfl] at HBI2
                have hyb1 : (y == 48) = true := by simp [hy48]
                clear hy48
                go_wp2_with (first
                  | (go_at_call 19; refine HNU.out.mono ?_; rintro e w3 ⟨rfl, rfl⟩)
                  | (go_at_call 13; refine HBI2.out.mono ?_; rintro e w4 ⟨u4, rfl, hr4, hb4⟩))
                go_ret
                exact ⟨rfl, HFI.out _ hb4⟩
              · have hyb1 : (y == 48) = false := by simp [hy48]
                by_cases hy49 : y = 49
                · rw [show bitB y = true by rw [hy49]; rfl] at HBI2
                  have hyb2 : (y == 49) = true := by simp [hy49]
                  clear hy48 hy49
                  go_wp2_with (first
                    | (go_at_call 19; refine HNU.out.mono ?_; rintro e w3 ⟨rfl, rfl⟩)
                    | (go_at_call 13; refine HBI2.out.mono ?_; rintro e w4 ⟨u4, rfl, hr4, hb4⟩))
                  go_ret
                  exact ⟨rfl, HFI.out _ hb4⟩
                · rw [show bitB y = false by unfold bitB; simp [hy48, hy49]] at HBI2
                  have hyb2 : (y == 49) = false := by simp [hy49]
                  clear hy48 hy49
                  go_wp2_with (first
                    | (go_at_call 19; refine HNU.out.mono ?_; rintro e w3 ⟨rfl, rfl⟩)
                    | (go_at_call 13; refine HBI2.out.mono ?_; rintro e w4 ⟨u4, rfl, hr4, hb4⟩))
                  go_ret
                  exact ⟨rfl, HFI.out _ hb4⟩
end Go.Proofs.Ytijdangaffnckaa
