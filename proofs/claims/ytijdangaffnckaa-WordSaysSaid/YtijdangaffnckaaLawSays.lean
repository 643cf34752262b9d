/- The walk of skolemlaw3.WordSays: it answers true. Conditions: the slice reads as bytes; the number is a 64-bit int. -/
import Derived.Test.YtijdangaffnckaaWRow
import Derived.Test.YtijdangaffnckaaRefSplit
import Derived.Test.YtijdangaffnckaaNum
import Derived.Test.YtijdangaffnckaaLine
import Derived.Test.YtijdangaffnckaaSameG
import Derived.Test.YtijdangaffnckaaOpenG
namespace Go.Proofs.Ytijdangaffnckaa
open Go.RowKit

theorem lineV_parts (r : Option (List Int × Nat)) : ∃ (t : ByteArray) (n : Int) (b : Bool), lineV r = .tuple #[.string t, .int .i64 n, .bool b] := by
  cases r with
  | none => exact ⟨_, _, _, rfl⟩
  | some y => obtain ⟨s, n⟩ := y; exact ⟨_, _, _, rfl⟩

set_option maxRecDepth 4000 in
set_option maxHeartbeats 4000000 in
theorem lawSays (a : Option Addr) (c : Nat) (xs : List Int) (cm : Bool) (s : ByteArray) (f : Int) (w : World) (hv : RowGAt (Value.int .u8) 0 w a c xs) (hb : Bts xs) :
    Calls Try.prog 3 #[.slice a xs.length c, .bool cm, .string s, .int .i64 f] w fun e w' => e = .returned (.bool true) ∧ Below w.heap.size w w' := by
  have HV := Lib.hid (show RowG (Value.int .u8) 0 w (.slice a xs.length c) xs from ⟨a, c, rfl, hv⟩)
  clear hv
  by_cases hn : 300 < xs.length
  · generalize xs.length = n at *
    go_enter Try.func3, Try.ntmps3
    go_wp2_with (go_at_call 8; refine (first3_any _).mono ?_; rintro e w1 ⟨rfl, hb1⟩)
    go_ret
    exact ⟨rfl, hb1⟩
  · by_cases hn2 : 60 < s.size
    · generalize xs.length = n at *
      generalize hS : s.size = sn at *
      go_enter Try.func3, Try.ntmps3
      go_wp2_with (go_at_call 8; refine (first3_any _).mono ?_; rintro e w1 ⟨rfl, hb1⟩)
      go_ret
      exact ⟨rfl, hb1⟩
    · have HS1 := Lib.hid (fun W (hW : Below w.heap.size w W) => (split_row (.slice a xs.length c) xs cm W (HV.out.keep hW) hb (by omega)).mono (fun e w' h => show (∃ u, e = .returned u ∧ WRow w' u (wordsL cm xs)) ∧ Below w.heap.size w w' ∧ Below W.heap.size W w' from ⟨h.1, hW.trans (h.2.mono hW.size), h.2⟩))
      have HS2 := Lib.hid (fun W (hW : Below w.heap.size w W) => (refSplit_any (.slice a xs.length c) xs cm W (HV.out.keep hW) hb (by omega)).mono (fun e w' h => show (∃ u, e = .returned u ∧ WRow w' u (wordsL cm xs)) ∧ Below w.heap.size w w' ∧ Below W.heap.size W w' from by
        obtain ⟨u, he, ho, hb2⟩ := h
        exact ⟨⟨u, he, own_wrow ho⟩, hW.trans (hb2.mono hW.size), hb2⟩))
      have hss : (numsOf s).length = s.size := by rw [← strOfNums_size, numsOf_back]
      have HN1 := Lib.hid (fun W => num_any (numsOf s) W (numsOf_bts s) (by omega))
      have HN2 := Lib.hid (fun W => refNum_any (numsOf s) W (numsOf_bts s) (by omega))
      have HB1 := Lib.hid (fun W => bits_any (numsOf s) W (numsOf_bts s) (by omega))
      have HB2 := Lib.hid (fun W => refBits_any (numsOf s) W (numsOf_bts s) (by omega))
      rw [numsOf_back] at HN1 HN2 HB1 HB2
      unfold NumPost at HN1 HN2
      unfold BitsPost at HB1 HB2
      have HL1 := Lib.hid (fun W (hW : Below w.heap.size w W) => line_any (.slice a xs.length c) xs f W (HV.out.keep hW) hb (by omega))
      have HL2 := Lib.hid (fun W (hW : Below w.heap.size w W) => refLine_any (.slice a xs.length c) xs f W (HV.out.keep hW) (by omega))
      obtain ⟨lt, ln, lb, hlv⟩ := lineV_parts (lineL xs f)
      rw [hlv] at HL1 HL2
      clear hlv hss
      have HSB := Lib.hid (fun (W : World) (u v : Value) (hu : RowG Value.bool false W u (bitsL (numsOf s))) (hv : RowG Value.bool false W v (bitsL (numsOf s))) => sameBools_any u v _ _ W hu hv)
      rw [show decide (bitsL (numsOf s) = bitsL (numsOf s)) = true by simp] at HSB
      generalize (numL (numsOf s)).getD 0 = nv at *
      generalize (numL (numsOf s)).isSome = nb at *
      generalize (numsOf s).all bitB = bb at *
      generalize bitsL (numsOf s) = bl at *
      generalize wordsL cm xs = ws at *
      generalize xs.length = n at *
      generalize hS : s.size = sn at *
      go_enter Try.func3, Try.ntmps3
      go_wp2_with (first
        | (go_at_call 8; refine (first3_any _).mono ?_; rintro e w1 ⟨rfl, hb1⟩)
        | (go_at_call 9; refine (HS1.out _ hb1).mono ?_; rintro e w2 ⟨⟨u1, rfl, a1, c1, rfl, hx1, hm1, hy1⟩, hb2, hb12⟩; have HY1 := Lib.hid hy1; have HM1 := Lib.hid hm1; clear hy1 hm1)
        | (go_at_call 10; refine (HS2.out _ hb2).mono ?_; rintro e w3 ⟨⟨u2, rfl, a2, c2, rfl, hx2, hm2, hy2⟩, hb3, hb23⟩; have HY2 := Lib.hid hy2; clear hy2 hm2))
      generalize hm : ws.length = m at *
      have HM := Lib.hid hm; clear hm
      have hmx : m ≤ 9223372036854775807 := by have := HM1.out; unfold maxLen at this; omega
      go_loopw [12] (fun i wr => ∃ j t : Nat, j ≤ m ∧ i = .int .i64 j ∧ wr = w3.drewN t) (fun i _ => m - (intOf i).toNat)
      case atStart => exact ⟨0, 0, Nat.zero_le _, rfl, rfl⟩
      case round =>
        obtain ⟨j, t, hj, rfl, rfl⟩ := hrel
        by_cases hlt : j < m
        · obtain ⟨g1, e1, hc1⟩ := HY1.out.resolve_left (by omega)
          obtain ⟨g2, e2, hc2⟩ := HY2.out.resolve_left (by omega)
          subst e1
          subst e2
          have hd1 := hc1.keep hb23
          have hjl : j < ws.length := by rw [HM.out]; exact hlt
          have k1 := hd1.text j hjl
          have k2 := hd1.pos j hjl
          have k3 := hd1.fst j hjl
          have k4 := hc2.text j hjl
          have k5 := hc2.pos j hjl
          have k6 := hc2.fst j hjl
          clear hd1 hc1 hc2 hjl HY1 HY2
          generalize strOfNums (ws.getD j wd0).1 = x1 at *
          generalize ((ws.getD j wd0).2.1 : Int) = x2 at *
          generalize (ws.getD j wd0).2.2 = x3 at *
          go_wp2_with fail
          go_quiet (fail)
          go_wp2
          go_roundw
          case rel => exact ⟨j + 1, _, by omega, by go_num, rfl⟩
          case measure => go_light; simp [intOf]; omega
        · have hjm : j = m := by omega
          have hbt : Below w.heap.size w (w3.drewN t) := below_drewN hb3 t
          clear hlt hj
          subst hjm
          generalize w3.drewN t = wt at *
          go_wp2_with (first
            | (go_at_call 11; refine (HN1.out _).mono ?_; rintro e w5 ⟨rfl, hb5'⟩; have hb5 := hbt.trans (hb5'.mono hbt.size))
            | (go_at_call 12; refine (HN2.out _).mono ?_; rintro e w6 ⟨rfl, hb6'⟩; have hb6 := hb5.trans (hb6'.mono hb5.size))
            | (go_at_call 13; refine (HB1.out _).mono ?_; rintro e w7 ⟨p, rfl, hp, hb7'⟩; have hb7 := hb6.trans (hb7'.mono hb6.size))
            | (go_at_call 14; refine (HB2.out _).mono ?_; rintro e w8 ⟨q, rfl, hq, hb8'⟩; have hb8 := hb7.trans (hb8'.mono hb7.size); have hp8 := hp.keep hb8')
            | (go_at_call 15; refine (HL1.out _ hb8).mono ?_; rintro e w9 ⟨rfl, rfl⟩)
            | (go_at_call 16; refine (HL2.out _ hb8).mono ?_; rintro e w9 ⟨rfl, rfl⟩)
            | (go_at_call 17; refine (HSB.out _ _ _ hp8 hq).mono ?_; rintro e w10 ⟨rfl, nq, rfl⟩))
          go_ret
          exact ⟨ret_bool (by simp), below_drewN hb8 nq⟩
end Go.Proofs.Ytijdangaffnckaa
