/- The walk of skolemlaw2.AssignModels: it answers true. Conditions: the slice reads as 64-bit ints. -/
import Derived.Test.YtbofgnihockpmaaModP
import Derived.Test.YtbofgnihockpmaaAsgAll
import Derived.Test.YtbofgnihockpmaaAsgFirst
import Derived.Deep.Light
namespace Go.Proofs.Ytbofgnihockpmaa
open Go.RowKit

set_option maxRecDepth 4000 in
set_option maxHeartbeats 4000000 in
theorem lawModels (nn : Int) (a : Option Addr) (c : Nat) (cs : List Int) (some' : Int) (w : World)
    (hv : RowAt w a c cs) (hcs : ∀ y ∈ cs, -9223372036854775808 ≤ y ∧ y ≤ 9223372036854775807) :
    Calls Try.prog 4 #[.int .i64 nn, .slice a cs.length c, .int .i64 some'] w fun e w' => e = .returned (.bool true) ∧ Below w.heap.size w w' := by
  have HRow := Lib.hid hv
  by_cases hn : 60 < cs.length
  · generalize cs.length = n at *
    clear hv
    go_enter Try.func4, Try.ntmps4
    go_wp2_with (go_at_call 7; refine (first_any _).mono ?_; rintro e w1 ⟨rfl, hb⟩)
    go_ret
    exact ⟨rfl, hb⟩
  · have HCL := Lib.hid (fun W (h : Below w.heap.size w W) => clauses_any a c cs W (hv.keep h) hcs (by omega))
    have hvc := hv.1
    have hcm := hv.2.1
    unfold maxLen at hcm
    clear hv hcs
    generalize cs.length = n at *
    go_enter Try.func4, Try.ntmps4
    go_wp2_with (first
      | (go_at_call 7; refine (first_any _).mono ?_; rintro e w1 ⟨rfl, hb⟩)
      | (go_at_call 29; refine (HCL.out _ hb).mono ?_; rintro e w2 ⟨ac, cc, xss, rfl, hrows, hlits, hb2⟩)
      | (go_at_call 10; refine (new_any 12 _ (by omega) (by omega)).mono ?_; rintro e w3 ⟨p, q, rfl, hA, hb3⟩))
    have hqb : w2.heap.size ≤ q := hA.bq
    have hbw2 : Below w.heap.size w w2 := hb.trans (hb2.mono hb.size)
    have HLT := Lib.hid hlits
    have HRR := Lib.hid hrows
    have hrl := hrows.1
    have hrm := hrows.2.1
    unfold maxLen at hrm
    clear hb hb2 hlits hrows HCL HRow
    generalize hm : xss.length = m at *
    have HMm := Lib.hid hm
    clear hm
    go_loopw [11, 12] (fun i _ wr => ∃ (k : Nat) (V : List Int), 1 ≤ k ∧ k ≤ 13 ∧ i = .int .i64 k ∧ Asg wr w2.heap.size (.pointer (some ⟨p, 0, none⟩)) p q V ∧ Below w2.heap.size w2 wr ∧ Hid (M1 (tgt nn) V k)) (fun i _ _ => 13 - (intOf i).toNat)
    case atStart => exact ⟨1, _, Nat.le_refl _, by omega, rfl, hA, hb3, M1.start _⟩
    case round =>
      obtain ⟨k, V, hk1, hk, rfl, hA2, hbr, HM⟩ := hrel
      clear hA hb3
      have HBR := Lib.hid hbr; clear hbr
      by_cases hlt : k ≤ 12
      · have hSet := Lib.hid (fun l h1 h2 => set_any hA2 l h1 h2)
        cases hbit : (bits BinOp.and IntKind.i64 (nn / 2 ^ k) 1 == 0)
        · cases hsm : (bits BinOp.and IntKind.i64 (some' / 2 ^ k) 1 == 1)
          · have hl : plc (k : Int) = k := by have := plc_pos (l := (k : Int)) (by omega); omega
            go_wp2_with fail
            go_roundw
            case rel => exact ⟨k + 1, V, by omega, by omega, by go_num, hA2, HBR.out, HM.out.skip⟩
            case measure => go_light; simp [intOf]; omega
          · have hl : plc (k : Int) = k := by have := plc_pos (l := (k : Int)) (by omega); omega
            have hf := set_val (V := V) (l := (k : Int)) (x := 1) (by omega) (by rw [hl, HM.out.len]; omega) (by rw [if_pos (by omega)]) (.inl (by rw [hl]; exact HM.out.un))
            rw [hl] at hf
            obtain ⟨f1, f2, _, _⟩ := hf
            have HF2 := Lib.hid f2
            have HM' := Lib.hid (HM.out.set hk1 (show (1 : Int) = tgt nn k by unfold tgt bitOf; rw [hbit]; rfl))
            clear f2
            go_wp2_with (go_at_call 13; refine (hSet.out _ (by omega) (by omega)).mono ?_; rintro e w4 ⟨rfl, hA4, hO4⟩)
            go_roundw
            case rel => exact ⟨k + 1, V.set k 1, by omega, by omega, by go_num, by rw [← HF2.out]; exact hA4, hO4.below HBR.out HBR.out.size hqb, HM'.out⟩
            case measure => go_light; simp [intOf]; omega
        · cases hsm : (bits BinOp.and IntKind.i64 (some' / 2 ^ k) 1 == 1)
          · have hl : plc (-(k : Int)) = k := by have := plc_neg (l := (-(k : Int))) (by omega); omega
            go_wp2_with fail
            go_roundw
            case rel => exact ⟨k + 1, V, by omega, by omega, by go_num, hA2, HBR.out, HM.out.skip⟩
            case measure => go_light; simp [intOf]; omega
          · have hl : plc (-(k : Int)) = k := by have := plc_neg (l := (-(k : Int))) (by omega); omega
            have hf := set_val (V := V) (l := (-(k : Int))) (x := 2) (by omega) (by rw [hl, HM.out.len]; omega) (by rw [if_neg (by omega)]) (.inl (by rw [hl]; exact HM.out.un))
            rw [hl] at hf
            obtain ⟨f1, f2, _, _⟩ := hf
            have HF2 := Lib.hid f2
            have HM' := Lib.hid (HM.out.set hk1 (show (2 : Int) = tgt nn k by unfold tgt bitOf; rw [hbit]; rfl))
            clear f2
            go_wp2_with (go_at_call 13; refine (hSet.out _ (by omega) (by omega)).mono ?_; rintro e w4 ⟨rfl, hA4, hO4⟩)
            go_roundw
            case rel => exact ⟨k + 1, V.set k 2, by omega, by omega, by go_num, by rw [← HF2.out]; exact hA4, hO4.below HBR.out HBR.out.size hqb, HM'.out⟩
            case measure => go_light; simp [intOf]; omega
      · have hk13 : k = 13 := by omega
        subst hk13
        rename World => wp1
        rename List Int => V1
        have HV1 := Lib.hid hA2.vals
        have HPA := Lib.hid (all_any hA2 ac cc xss (HRR.out.keep HBR.out) (fun xs hx y hy => by
          have := HLT.out xs hx y hy
          have h1 := plc_absI y
          unfold absI at h1
          split at h1 <;> omega))
        rw [HMm.out] at HPA
        have HBR1 := Lib.hid HBR.out
        have HM1 := Lib.hid HM.out
        have hA3 := hA2
        clear HBR HM hlt
        go_wp2_with (go_at_call 21; refine HPA.out.mono ?_; rintro e w' ⟨rfl, rfl⟩)
        go_loopw [13, 14] (fun i _ wr => ∃ (k : Nat) (V : List Int), 1 ≤ k ∧ k ≤ 13 ∧ i = .int .i64 k ∧ Asg wr w2.heap.size (.pointer (some ⟨p, 0, none⟩)) p q V ∧ Below w2.heap.size w2 wr ∧ Hid (M2 (tgt nn) V k)) (fun i _ _ => 13 - (intOf i).toNat)
        case atStart => exact ⟨1, _, Nat.le_refl _, by omega, rfl, hA3, HBR1.out, HM1.out.two HV1.out.zero⟩
        case round =>
          obtain ⟨k, V, hk1, hk, rfl, hA4, hbr, HM2⟩ := hrel
          clear hA3 hA2
          have HBR := Lib.hid hbr; clear hbr
          by_cases hlt : k ≤ 12
          · have hSet := Lib.hid (fun l h1 h2 => set_any hA4 l h1 h2)
            cases hbit : (bits BinOp.and IntKind.i64 (nn / 2 ^ k) 1 == 0)
            · have hl : plc (k : Int) = k := by have := plc_pos (l := (k : Int)) (by omega); omega
              have htg : (1 : Int) = tgt nn k := by unfold tgt bitOf; rw [hbit]; rfl
              have hf := set_val (V := V) (l := (k : Int)) (x := 1) (by omega) (by rw [hl, HM2.out.len]; omega) (by rw [if_pos (by omega)]) (by rw [hl, htg]; exact HM2.out.hi k)
              rw [hl] at hf
              obtain ⟨f1, f2, f3, f4⟩ := hf
  
              have HF2 := Lib.hid f2
              have HF4 := Lib.hid f4
              have HM' := Lib.hid (HM2.out.set hk1 hlt htg)
              clear f2 f4 htg
              go_wp2_with (first
                | (go_at_call 13; refine (set_any hA5 _ (by omega) (by omega)).mono ?_; rintro e w6 ⟨rfl, hA6, hO6⟩)
                | (go_at_call 13; refine (hSet.out _ (by omega) (by omega)).mono ?_; rintro e w5 ⟨rfl, hA5, hO5⟩; rw [HF2.out] at hA5))
              go_roundw
              case rel => exact ⟨k + 1, V.set k 1, by omega, by omega, by go_num, by rw [HF4.out] at hA6; exact hA6, hO6.below (hO5.below HBR.out HBR.out.size hqb) (Nat.le_trans HBR.out.size hO5.size) hqb, HM'.out⟩
              case measure => go_light; simp [intOf]; omega
            · have hl : plc (-(k : Int)) = k := by have := plc_neg (l := (-(k : Int))) (by omega); omega
              have htg : (2 : Int) = tgt nn k := by unfold tgt bitOf; rw [hbit]; rfl
              have hf := set_val (V := V) (l := (-(k : Int))) (x := 2) (by omega) (by rw [hl, HM2.out.len]; omega) (by rw [if_neg (by omega)]) (by rw [hl, htg]; exact HM2.out.hi k)
              rw [hl] at hf
              obtain ⟨f1, f2, f3, f4⟩ := hf
              rw [Int.neg_neg] at f3 f4
              have HF2 := Lib.hid f2
              have HF4 := Lib.hid f4
              have HM' := Lib.hid (HM2.out.set hk1 hlt htg)
              clear f2 f4 htg
              go_wp2_with (first
                | (go_at_call 13; refine (set_any hA5 _ (by omega) (by omega)).mono ?_; rintro e w6 ⟨rfl, hA6, hO6⟩)
                | (go_at_call 13; refine (hSet.out _ (by omega) (by omega)).mono ?_; rintro e w5 ⟨rfl, hA5, hO5⟩; rw [HF2.out] at hA5))
              go_roundw
              case rel => exact ⟨k + 1, V.set k 2, by omega, by omega, by go_num, by rw [HF4.out] at hA6; exact hA6, hO6.below (hO5.below HBR.out HBR.out.size hqb) (Nat.le_trans HBR.out.size hO5.size) hqb, HM'.out⟩
              case measure => go_light; simp [intOf]; omega
          · have hk13 : k = 13 := by omega
            subst hk13
            have HIN := Lib.hid (show ∀ xs ∈ xss, InW xs from fun xs hx y hy => by
              have := HLT.out xs hx y hy
              have h1 := plc_absI y
              unfold absI at h1
              split at h1 <;> omega)
            have HAL := Lib.hid (all_any hA4 ac cc xss (HRR.out.keep HBR.out) HIN.out)
            have HMO := Lib.hid (model_any hA4)
            have HKN := Lib.hid (fun W (h : Below wr.heap.size wr W) => known_any (hA4.keep h))
            have HFA := Lib.hid (full_all (tgt_two nn) HM2.out HLT.out)
            have HMA := Lib.hid (more_all HV1.out HM1.out HM2.out xss)
            have HFK := Lib.hid (full_known (tgt_two nn) HM2.out)
            have HOF := Lib.hid (fun W (h : Below wr.heap.size wr W) (bs : List Bool) mv (hb : BRow W mv bs) => of_any ac cc xss mv bs W (HRR.out.keep (HBR.out.trans (h.mono HBR.out.size))) hb HIN.out)
            have hml : (modelL V).length = V.length := by simp [modelL]
            have HML := Lib.hid hml; clear hml
            have hv13 := HM2.out.len
            rw [HMm.out] at HAL HOF
            rw [HFA.out] at HAL HMA
            clear hA4 HRR HLT HV1 HM1 HM2 HFA HIN hlt HPA HBR1
            cases ht : ofL xss (modelL V) with
            | false =>
              rw [ht, if_neg (by decide)] at HAL HMA
              rcases HMA.out with hp | hp
              all_goals
                  generalize allL V1 xss = pt at *
                  subst hp
                  go_wp2_with (first
                    | (go_at_call 21; refine HAL.out.mono ?_; rintro e w' ⟨rfl, rfl⟩)
                    | (go_at_call 26; refine HMO.out.mono ?_; rintro e w7 ⟨rfl, hBC, hb7⟩; have hBR := hBC.row (by rw [HML.out]; omega); rw [HML.out, hv13] at hBR)
                    | (go_at_call 27; refine (HOF.out _ hb7 _ _ hBR).mono ?_; rintro e w' ⟨rfl, rfl⟩)
                    | (go_at_call 24; refine (HKN.out _ hb7).mono ?_; rintro e w8 ⟨v8, rfl, ho8, hb8⟩; rw [HFK.out] at ho8; obtain ⟨ak, ck, rfl, hk8, hk9⟩ := own_shape ho8; unfold maxLen at hk9))
                  go_ret
                  exact ⟨rfl, hbw2.trans ((HBR.out.trans (hb7.mono HBR.out.size)).trans (hb8.mono (Nat.le_trans HBR.out.size hb7.size)) |>.mono hbw2.size)⟩
            | true =>
              rw [ht, if_pos rfl] at HAL HMA
              rcases HMA.out with hp | hp
              all_goals
                  generalize allL V1 xss = pt at *
                  subst hp
                  go_wp2_with (first
                    | (go_at_call 21; refine HAL.out.mono ?_; rintro e w' ⟨rfl, rfl⟩)
                    | (go_at_call 26; refine HMO.out.mono ?_; rintro e w7 ⟨rfl, hBC, hb7⟩; have hBR := hBC.row (by rw [HML.out]; omega); rw [HML.out, hv13] at hBR)
                    | (go_at_call 27; refine (HOF.out _ hb7 _ _ hBR).mono ?_; rintro e w' ⟨rfl, rfl⟩)
                    | (go_at_call 24; refine (HKN.out _ hb7).mono ?_; rintro e w8 ⟨v8, rfl, ho8, hb8⟩; rw [HFK.out] at ho8; obtain ⟨ak, ck, rfl, hk8, hk9⟩ := own_shape ho8; unfold maxLen at hk9))
                  go_ret
                  exact ⟨rfl, hbw2.trans ((HBR.out.trans (hb7.mono HBR.out.size)).trans (hb8.mono (Nat.le_trans HBR.out.size hb7.size)) |>.mono hbw2.size)⟩
end Go.Proofs.Ytbofgnihockpmaa
