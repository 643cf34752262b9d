/- The contract of lits.Check: which fault it tells. Conditions: the clauses read as lists of 64-bit ints, short ones; the package's errors lie as 'Sents3' says. -/
import Derived.Test.YtcodmijphejfdaaDoorCheckP
import Derived.Test.YtcodmijphejfdaaDoorTold
import Derived.Test.YtcodmijphejfdaaDoorSmall
namespace Go.Proofs.YtcodmijphejfdaaDoor
open Go.RowKit

/-- What Check leaves. -/
def CheckPost (A : Nat → Addr) (w : World) (vars : Int) (xss : List (List Int)) (e : Ending) (w' : World) : Prop :=
  ∃ ev c p k, e = .returned ev ∧ CheckF vars xss c p k ∧ ErrR A w' ev c p k ∧ (c = 0 → ev = .nilIface) ∧ (c ≠ 0 → ∃ t v, ev = .iface t v) ∧ Below w.heap.size w w'

set_option maxHeartbeats 2000000 in
theorem check_any (A : Nat → Addr) (vars : Int) (a : Option Addr) (cap : Nat) (xss : List (List Int)) (w : World) (hS : Sents3 w A) (hv1 : -9223372036854775808 ≤ vars) (hv2 : vars ≤ 9223372036854775807) (hr : RowsAt w a cap xss)
    (hint : ∀ xs ∈ xss, ∀ l ∈ xs, -9223372036854775807 ≤ l ∧ l ≤ 9223372036854775807) (hlen : ∀ xs ∈ xss, xs.length < 1000000000) :
    Calls Tryd.prog 45 #[.agg #[.int .i64 vars, .slice a xss.length cap]] w (CheckPost A w vars xss) := by
  obtain ⟨hc1, hc2, hr⟩ := hr
  unfold maxLen at hc2
  have HR := Lib.hid hr; clear hr
  have HI := Lib.hid hint; clear hint
  have HLEN := Lib.hid hlen; clear hlen
  have HS := Lib.hid hS
  have s1 : w.cell? ⟨2, 0, none⟩ = some (.iface 149 (.pointer (some (A 1)))) := hS.c1
  have s3 : w.cell? ⟨1, 0, none⟩ = some (.iface 149 (.pointer (some (A 3)))) := hS.c3
  have z1 : 2 < w.heap.size := World.block_lt_of_cell? w _ s1
  have z3 : 1 < w.heap.size := World.block_lt_of_cell? w _ s3
  clear hS
  have hbw : ∀ o, Below w.heap.size w (w.alloc o) := fun o => (Below.refl _ w).alloc (Nat.le_refl _) _
  have HB := Lib.hid hbw; clear hbw
  have HL : Hid (∀ W, Below w.heap.size w W → tooMuch vars xss → CheckPost A w vars xss (.returned (sentV A 1)) W) := fun W hW ht =>
    ⟨sentV A 1, 102, false, 0, rfl, .inl ⟨ht, rfl, rfl, rfl⟩, errR_sent A W 1 (by omega), fun h => by omega, fun _ => ⟨_, _, rfl⟩, hW⟩
  generalize hN : xss.length = n at *
  have HN := Lib.hid hN; clear hN
  by_cases hvn : vars < 0
  · have HT := Lib.hid (show tooMuch vars xss from .inl hvn)
    go_enter Tryd.func45, Tryd.ntmps45
    go_wp2_with fail
    go_ret
    exact HL.out _ (HB.out _) HT.out
  have hd1 : decide (vars < 0) = false := by simpa using hvn
  by_cases hvp : 4000 < vars
  · have HT := Lib.hid (show tooMuch vars xss from .inr (.inl hvp))
    go_enter Tryd.func45, Tryd.ntmps45
    go_wp2_with fail
    go_ret
    exact HL.out _ (HB.out _) HT.out
  have hd2 : decide (4000 < vars) = false := by simpa using hvp
  by_cases hnp : 20000 < n
  · have HT := Lib.hid (show tooMuch vars xss from .inr (.inr (.inl (by rw [HN.out]; exact hnp))))
    go_enter Tryd.func45, Tryd.ntmps45
    go_wp2_with fail
    go_ret
    exact HL.out _ (HB.out _) HT.out
  have hd3 : decide (20000 < (n : Int)) = false := by simp; omega
  go_enter Tryd.func45, Tryd.ntmps45
  go_wp2_with fail
  go_loop [3, 28] (fun s i => ∃ k : Nat, k ≤ n ∧ i = .int .i64 k ∧ s = .int .i64 (sumTo xss k) ∧ sumTo xss k ≤ 80000) (fun _ i => n - (intOf i).toNat)
  case atStart => exact ⟨0, Nat.zero_le _, rfl, rfl, by simp [sumTo]⟩
  case round =>
    obtain ⟨k, hk, rfl, rfl, hsum⟩ := hrel
    by_cases hlt : k < n
    · obtain ⟨b, off, ha, hb, hc⟩ := HR.out.resolve_left (by omega)
      subst ha
      obtain ⟨v, g1, hv⟩ := hc k hlt
      clear hc
      have hkl : k < xss.length := by rw [HN.out]; exact hlt
      have HSU := Lib.hid (sumTo_succ xss k hkl)
      have hle : (xss.getD k []).length < 1000000000 := HLEN.out _ (by simp [List.getD, hkl])
      have HMO := Lib.hid (sumTo_mono xss (k + 1) xss.length (by omega))
      clear hkl
      obtain ⟨av, cv, rfl, hrv⟩ := hv
      clear hrv
      generalize (xss.getD k []).length = m at *
      by_cases hs : 80000 < sumTo xss k + m
      · have HT := Lib.hid (show tooMuch vars xss from .inr (.inr (.inr (by have := HMO.out; rw [HSU.out] at this; omega))))
        generalize sumTo xss k = sk at *
        go_wp2_with fail
        go_ret
        exact HL.out _ (HB.out _) HT.out
      · generalize hsk : sumTo xss k = sk at *
        go_wp2_with fail
        go_round
        case rel => exact ⟨k + 1, by omega, by go_num, by rw [HSU.out]; go_num, by rw [HSU.out]; omega⟩
        case measure => simp [intOf]; omega
    · have hkn : k = n := by omega
      have HNT := Lib.hid (show ¬ tooMuch vars xss from by
        rintro (h | h | h | h)
        · omega
        · omega
        · rw [HN.out] at h; exact hnp h
        · rw [HN.out, ← hkn] at h; omega)
      clear hlt hsum
      go_wp2_with fail
      clear hkn hk
      go_loop [43] (fun i => ∃ k : Nat, k ≤ n ∧ i = .int .i64 k ∧ Hid (∀ j, j < k → ∀ l ∈ xss.getD j [], isB vars l = true)) (fun i => n - (intOf i).toNat)
      case atStart => exact ⟨0, Nat.zero_le _, rfl, fun j hj => absurd hj (Nat.not_lt_zero _)⟩
      case round =>
        obtain ⟨k, hk, rfl, HQ⟩ := hrel
        by_cases hlt : k < n
        · obtain ⟨b, off, ha, hb, hc⟩ := HR.out.resolve_left (by omega)
          subst ha
          obtain ⟨v, g1, hv⟩ := hc k hlt
          clear hc
          have hkl : k < xss.length := by rw [HN.out]; exact hlt
          have hmem : xss.getD k [] ∈ xss := by simp [List.getD, hkl]
          have hle : (xss.getD k []).length < 1000000000 := HLEN.out _ hmem
          have HIK := Lib.hid (HI.out _ hmem)
          clear hmem
          generalize hys : xss.getD k [] = ys at *
          have HYS := Lib.hid hys; clear hys
          obtain ⟨av, cv, rfl, hrv1, hrv2, hrv⟩ := hv
          have HRV := Lib.hid hrv; clear hrv
          unfold maxLen at hrv2
          generalize hm : ys.length = m at *
          have HM := Lib.hid hm; clear hm
          have HKL := Lib.hid hkl; clear hkl
          go_wp2_with fail
          go_loop [50] (fun i => ∃ j : Nat, j ≤ m ∧ i = .int .i64 j ∧ Hid (∀ i, i < j → isB vars (ys.getD i 0) = true)) (fun i => m - (intOf i).toNat)
          case atStart => exact ⟨0, Nat.zero_le _, rfl, fun j hj => absurd hj (Nat.not_lt_zero _)⟩
          case round =>
            obtain ⟨j, hj, rfl, HP⟩ := hrel
            by_cases hjl : j < m
            · obtain ⟨b2, off2, ha2, hb2, hc2'⟩ := HRV.out.resolve_left (by omega)
              subst ha2
              have g2 : w.cell? ⟨b2, off2 + j, none⟩ = some (.int .i64 (ys.getD j 0)) := hc2' j hjl
              clear hc2'
              have hjy : j < ys.length := by rw [HM.out]; exact hjl
              have hmem2 : ys.getD j 0 ∈ ys := by simp [List.getD, hjy]
              obtain ⟨hl1, hl2⟩ := HIK.out _ hmem2
              have HME := Lib.hid hmem2; clear hmem2 hjy
              generalize hlj : ys.getD j 0 = l at *
              have HLJ := Lib.hid hlj; clear hlj
              have HIS := Lib.hid (fun W => is_any l vars W hl1 hl2)
              obtain ⟨r, hr⟩ : ∃ r, isB vars l = r := ⟨_, rfl⟩
              rw [show (decide (1 ≤ absI l) && decide (absI l ≤ vars)) = r from hr] at HIS
              have HRR := Lib.hid hr; clear hr
              cases r with
              | true =>
                go_wp2_with (go_at_call 63; refine (HIS.out _).mono ?_; rintro e w' ⟨rfl, rfl⟩)
                go_round
                case rel =>
                  refine ⟨j + 1, by omega, by go_num, fun i hi => ?_⟩
                  by_cases e : i = j
                  · rw [e, HLJ.out]; exact HRR.out
                  · exact HP.out i (by omega)
                case measure => simp [intOf]; omega
              | false =>
                have HFB := Lib.hid (show firstBad vars xss k from ⟨HKL.out, HQ.out, l, by rw [HYS.out]; exact HME.out, HRR.out⟩)
                go_wp2_with (go_at_call 63; refine (HIS.out _).mono ?_; rintro e w' ⟨rfl, rfl⟩)
                go_ret
                have hbb : ∀ o, Below w.heap.size w ((w.alloc (.cells #[.int .i64 vars, .slice (some ⟨b, off, none⟩) n cap] 25)).alloc o) := fun o => (HB.out _).alloc (by simp) _
                refine ⟨_, 104, true, k, rfl, .inr (.inl ⟨HNT.out, k, HFB.out, rfl, rfl, rfl⟩), ?_, fun h => by omega, fun _ => ⟨_, _, rfl⟩, hbb _⟩
                refine errR_at 3 (by omega) (w.heap.size + 1) k ?_ ?_
                · rw [World.cell?_alloc_at _ _ _ _ (by simp)]; rfl
                · rw [World.cell?_alloc_at _ _ _ _ (by simp)]; rfl
            · have hjm : j = m := by omega
              have HALL := Lib.hid (show ∀ j', j' < k + 1 → ∀ l ∈ xss.getD j' [], isB vars l = true from by
                intro j' hj' l hl
                by_cases e : j' = k
                · rw [e, HYS.out] at hl
                  obtain ⟨i, hi, rfl⟩ := List.getElem_of_mem hl
                  have := HP.out i (by rw [HM.out] at hi; omega)
                  simpa [List.getD, hi] using this
                · exact HQ.out j' (by omega) l hl)
              clear hjl
              go_wp2_with fail
              go_round
              case rel => exact ⟨k + 1, by omega, by go_num, HALL.out⟩
              case measure => simp [intOf]; omega
        · have hkn : k = n := by omega
          have HALL := Lib.hid (show allIs vars xss from by
            intro xs hxs l hl
            obtain ⟨i, hi, rfl⟩ := List.getElem_of_mem hxs
            exact HQ.out i (by rw [HN.out] at hi; omega) l (by simpa [List.getD, hi] using hl))
          clear hlt
          go_wp2_with fail
          go_ret
          exact ⟨_, 0, false, 0, rfl, .inr (.inr ⟨HNT.out, HALL.out, rfl, rfl, rfl⟩), errR_nil A _, fun _ => rfl, fun h => absurd rfl h, HB.out _⟩
end Go.Proofs.YtcodmijphejfdaaDoor
