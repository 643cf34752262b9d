/- The walk of skolemlaw3.WordLines: it answers true. Conditions: the slice reads as bytes. -/
import Derived.Test.YtijdangaffnckaaWRow
import Derived.Test.YtijdangaffnckaaLine
import Derived.Test.YtijdangaffnckaaSameG
import Derived.Test.YtijdangaffnckaaAppStr
import Derived.Test.YtijdangaffnckaaOpenG
namespace Go.Proofs.Ytijdangaffnckaa
open Go.RowKit

theorem line_some {xs : List Int} {m : Nat} {s : List Int} {t : Nat} (h : lineL xs (m : Int) = some (s, t)) : m < t ∧ t ≤ xs.length ∧ (xs.take m ++ s) ++ [10] = xs.take t ∧ s = (xs.drop m).take (t - m - 1) ∧ s.length = t - m - 1 := by
  unfold lineL at h
  by_cases hm : (0 : Int) ≤ m ∧ (m : Int) < xs.length
  · rw [if_pos hm] at h
    have hml : m < xs.length := by omega
    rw [show ((m : Int)).toNat = m by omega] at h
    cases hk : nlAt (xs.drop m) with
    | none => rw [hk] at h; cases h
    | some k =>
      rw [hk] at h
      simp only [Option.map_some, Option.some.injEq, Prod.mk.injEq] at h
      obtain ⟨h1, h2⟩ := h
      obtain ⟨a, b, c⟩ := nlAt_lt hk
      have a' : k < xs.length - m := by simpa using a
      subst h1; subst h2
      refine ⟨by omega, by omega, ?_, by congr 1; omega, by simp; omega⟩
      have e1 : xs.take (m + k + 1) = xs.take (m + k) ++ [xs.getD (m + k) 0] := takeSnocI xs (m + k) (by omega)
      rw [e1, List.take_add]
      rw [getD_dropI] at b
      rw [b]
  · rw [if_neg hm] at h; cases h
theorem line_none {xs : List Int} {m : Nat} (h : lineL xs (m : Int) = none) : ∀ i, m ≤ i → i < xs.length → xs.getD i 0 ≠ 10 := by
  intro i h1 h2
  rw [lineL_in (by omega)] at h
  have h' : nlAt (xs.drop m) = none := by
    cases e : nlAt (xs.drop m) with
    | none => rfl
    | some k => rw [e] at h; cases h
  have := nlAt_none h' (i - m) (by simp; omega)
  rw [getD_dropI, show m + (i - m) = i by omega] at this
  exact this

theorem rowG_head {α : Type} {mk : α → Value} {d : α} {w : World} {a : Option Addr} {n c : Nat} {xs : List α} (h : RowG mk d w (.slice a n c) xs) (m : Nat) (hm : m ≤ xs.length) : RowG mk d w (.slice a m c) (xs.take m) := by
  obtain ⟨a', c', e, h1, h2, h3⟩ := h
  injection e with e1 e2 e3
  subst e1; subst e2; subst e3
  refine ⟨a, c, by simp; omega, by simp; omega, h2, ?_⟩
  rcases h3 with h3 | ⟨b, off, e, hb, hc⟩
  · left; simp; omega
  · right
    refine ⟨b, off, e, hb, fun i hi => ?_⟩
    simp at hi
    rw [hc i (by omega)]
    have h4 : i < m := by omega
    simp [List.getD, h4]

set_option maxRecDepth 4000 in
set_option maxHeartbeats 4000000 in
theorem lawLines (a : Option Addr) (c : Nat) (xs : List Int) (w : World) (hv : RowGAt (Value.int .u8) 0 w a c xs) (hb : Bts xs) :
    Calls Try.prog 5 #[.slice a xs.length c] w fun e w' => e = .returned (.bool true) ∧ Below w.heap.size w w' := by
  have HV := Lib.hid (show RowG (Value.int .u8) 0 w (.slice a xs.length c) xs from ⟨a, c, rfl, hv⟩)
  obtain ⟨hxc, hcm, hx⟩ := hv
  have hcm2 : c ≤ 9223372036854775807 := by unfold maxLen at hcm; omega
  have HX := Lib.hid hx; clear hx
  by_cases hn : 200 < xs.length
  · generalize xs.length = n at *
    go_enter Try.func5, Try.ntmps5
    go_wp2_with (go_at_call 8; refine (first3_any _).mono ?_; rintro e w1 ⟨rfl, hb1⟩)
    go_ret
    exact ⟨rfl, hb1⟩
  · have HLN := Lib.hid (fun W (hW : RowG (Value.int .u8) 0 W (.slice a xs.length c) xs) (f : Int) => line_any (.slice a xs.length c) xs f W hW hb (by omega))
    have HB := Lib.hid hb; clear hb
    have HCM := Lib.hid hcm; clear hcm
    have HM1 := Lib.hid (show lineL xs (-1) = none from lineL_out (.inl (by omega)))
    generalize hN : xs.length = n at *
    have HN := Lib.hid hN; clear hN
    go_enter Try.func5, Try.ntmps5
    go_wp2_with (go_at_call 8; refine (first3_any _).mono ?_; rintro e w1 ⟨rfl, hb1⟩)
    go_loopw [4, 5, 6, 7, 8, 9] (fun atv av nv _ _ _ wr => ∃ (m q : Nat), m ≤ n ∧ q ≤ m ∧ atv = .int .i64 m ∧ nv = .int .i64 q ∧ wr.ownsRow w.heap.size 5 1 av m ((xs.take m).map (Value.int .u8)) ∧ Below w.heap.size w wr) (fun atv _ _ _ _ _ _ => n - (intOf atv).toNat)
    case atStart => exact ⟨0, 0, Nat.zero_le _, Nat.le_refl _, rfl, rfl, World.ownsRow_nil _ _ _ _, hb1⟩
    case round =>
      obtain ⟨m, q, hm, hq, rfl, rfl, hown, hbr⟩ := hrel
      have HLV := Lib.hid (HLN.out wr (HV.out.keep hbr) (m : Int))
      have hBB := hbr.size
      cases hl : lineL xs (m : Int) with
      | some y =>
        obtain ⟨s, t⟩ := y
        obtain ⟨h1, h2, h3, h4, h5⟩ := line_some hl
        rw [HN.out] at h2
        rw [hl] at HLV
        simp only [lineV] at HLV
        have H3 := Lib.hid h3
        have HBS := Lib.hid (show Bts s by rw [h4]; exact (HB.out.drop m).take _)
        have H5 := Lib.hid h5
        clear hl h3 h4
        go_wp2_with (first
          | (go_at_call 15; refine HLV.out.mono ?_; rintro e w2 ⟨rfl, rfl⟩)
          | (at_builtin; refine wpList_appStr rfl _ _ rfl wr w.heap.size _ m (xs.take m) s HBS.out hown hBB (by omega) rfl rfl ?_; intro v1 w2 hown2 hb2; have hB2 := Nat.le_trans hBB hb2.size)
          | (at_builtin; refine wpList_app1G (Value.int .u8) _ _ _ 1 Try.underlying22 infoU8 rfl (by decide) rfl _ _ rfl w2 w.heap.size _ _ (xs.take m ++ s) 10 rfl hown2 hB2 (by omega) rfl rfl ?_; intro v2 w3 hown3 hap))
        go_roundw
        case rel => exact ⟨t, q + 1, h2, by omega, by first | rfl | go_num, by go_num, by rw [← H3.out, show t = m + s.length + 1 by rw [H5.out]; omega]; exact hown3, (hbr.trans hb2).trans hap.below⟩
        case measure => go_light; simp [intOf]; omega
      | none =>
        rw [hl] at HLV
        simp only [lineV] at HLV
        have HNO := Lib.hid (line_none hl)
        rw [HN.out] at HNO
        clear hl
        have HSB := Lib.hid (fun (W : World) (u v : Value) (hu : RowG (Value.int .u8) 0 W u (xs.take m)) (hv : RowG (Value.int .u8) 0 W v (xs.take m)) => sameBytes_any u v (xs.take m) (xs.take m) W hu hv)
        have HL1 := Lib.hid (HLN.out wr (HV.out.keep hbr) (-1))
        rw [HM1.out] at HL1
        simp only [lineV] at HL1
        go_wp2_with (go_at_call 15; refine HLV.out.mono ?_; rintro e w2 ⟨rfl, rfl⟩)
        go_loop [10] (fun i => ∃ k : Nat, m ≤ k ∧ k ≤ n ∧ i = .int .i64 k) (fun i => n - (intOf i).toNat)
        case atStart => exact ⟨m, Nat.le_refl _, hm, rfl⟩
        case round =>
          obtain ⟨k, hmk, hk, rfl⟩ := hrel
          by_cases hlt : k < n
          · obtain ⟨b, off, ha, hbl, hc⟩ := HX.out.resolve_left (by omega)
            subst ha
            have g1 : wr.cell? ⟨b, off + k, none⟩ = some (.int .u8 (xs.getD k 0)) := (hbr.cell (p := ⟨b, off + k, none⟩) hbl).trans (hc k hlt)
            have hyb : (xs.getD k 0 == 10) = false := by simpa using HNO.out k hmk hlt
            clear hc
            generalize xs.getD k 0 = y at *
            go_wp2_with fail
            go_round
            case rel => exact ⟨k + 1, by omega, by omega, by go_num⟩
            case measure => simp [intOf]; omega
          · have hkn : k = n := by omega
            have HRA := Lib.hid (own_rowG (d := (0 : Int)) hown)
            have HRV := Lib.hid (rowG_head (HV.out.keep hbr) m (by rw [HN.out]; exact hm))
            clear hlt hk hmk hown
            subst hkn
            go_wp2_with (first
              | (go_at_call 15; refine HL1.out.mono ?_; rintro e w2 ⟨rfl, rfl⟩)
              | (go_at_call 18; refine (HSB.out _ _ _ HRA.out HRV.out).mono ?_; rintro e w3 ⟨rfl, nq, rfl⟩))
            go_ret
            exact ⟨by simp, hbr.trans ((below_drewN (Below.refl _ _) nq).mono hBB)⟩
end Go.Proofs.Ytijdangaffnckaa
