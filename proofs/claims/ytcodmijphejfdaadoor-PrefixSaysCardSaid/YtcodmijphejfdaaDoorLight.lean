/- The contract of skolemlaw6.light: is a formula small. Conditions: the formula reads as lists of 64-bit ints, their reach as it is. -/
import Derived.Test.YtcodmijphejfdaaDoorBlkM
import Derived.Test.YtcodmijphejfdaaDoorRefCheck5
namespace Go.Proofs.YtcodmijphejfdaaDoor
open Go.RowKit

def lightB (bs : List Blk) (xss : List (List Int)) : Bool :=
  decide (bs.length ≤ 8) && (decide (xss.length ≤ 60) && ((xss.all fun xs => xs.all nearB) && (decide (sumTo xss xss.length ≤ 300) && bs.all fun b => decide (b.2.length ≤ 30) && b.2.all nearB)))
theorem all_take (bs : List Blk) (f : Blk → Bool) (k : Nat) (h : k < bs.length) : (bs.take (k + 1)).all f = ((bs.take k).all f && f (bs.getD k blk0)) := by
  rw [List.take_succ_eq_append_getElem h, List.all_append]; simp [List.getD, h]

set_option maxHeartbeats 4000000 in
theorem light_any (vars : Int) (q : Option Addr) (d : Nat) (bs : List Blk) (a : Option Addr) (c : Nat) (xss : List (List Int)) (w : World) (hq : BRowsAt w q d bs) (hr : RowsAt w a c xss) (hlen : ∀ xs ∈ xss, xs.length ≤ 140737488355328) :
    Calls Tryd.prog 6 #[.agg #[.slice q bs.length d, .int .i64 vars, .slice a xss.length c]] w fun e w' => e = .returned (.bool (lightB bs xss)) ∧ Below w.heap.size w w' := by
  have hbx : Below w.heap.size w (w.alloc (.cells #[.slice q bs.length d, .int .i64 vars, .slice a xss.length c] 27)) := (Below.refl _ w).alloc (Nat.le_refl _) _
  have HBX := Lib.hid hbx; clear hbx
  have HNA := Lib.hid (fun W (hW : Below w.heap.size w W) => nearAll_any a c xss W (hr.keep hW))
  have HCO := Lib.hid (fun W (hW : Below w.heap.size w W) (h : xss.length ≤ 60) => count_any a c xss W (hr.keep hW) h hlen)
  obtain ⟨hq1, hq2, hq3⟩ := hq
  unfold maxLen at hq2
  have HQ := Lib.hid hq3; clear hq3
  have HL := Lib.hid (show lightB bs xss = (decide (bs.length ≤ 8) && (decide (xss.length ≤ 60) && ((xss.all fun xs => xs.all nearB) && (decide (sumTo xss xss.length ≤ 300) && bs.all fun b => decide (b.2.length ≤ 30) && b.2.all nearB)))) from rfl)
  have HTK := Lib.hid (fun k (h : k < bs.length) => all_take bs (fun b => decide (b.2.length ≤ 30) && b.2.all nearB) k h)
  have HALL := Lib.hid (show bs.take bs.length = bs from List.take_length)
  have HBAD : Hid (∀ k, k < bs.length → (decide ((bs.getD k blk0).2.length ≤ 30) && (bs.getD k blk0).2.all nearB) = false → (bs.all fun b => decide (b.2.length ≤ 30) && b.2.all nearB) = false) := fun k hk h => by
    rw [List.all_eq_false]
    exact ⟨bs[k], List.getElem_mem hk, by rw [show bs[k] = bs.getD k blk0 by simp [List.getD, hk], h]; simp⟩
  generalize hB : bs.length = nb at *
  have HB := Lib.hid hB; clear hB
  by_cases h8 : nb ≤ 8
  · have h8b : decide ((8 : Int) < nb) = false := by simp; omega
    by_cases h60 : xss.length ≤ 60
    · have h60b : decide ((60 : Int) < xss.length) = false := by simp; omega
      have HCO' := Lib.hid (fun W hW => HCO.out W hW h60)
      clear HCO
      cases hna : (xss.all fun xs => xs.all nearB) with
      | false =>
        rw [hna] at HNA
        have HR := Lib.hid (show lightB bs xss = false by rw [HL.out, hna]; simp)
        clear HL hna HCO' HTK HBAD HALL
        rw [HR.out]
        generalize xss.length = n at *
        go_enter Tryd.func6, Tryd.ntmps6
        go_wp2_with (go_at_call 22; refine (HNA.out _ HBX.out).mono ?_; rintro e w' ⟨rfl, rfl⟩)
        (try go_ret)
        exact ⟨rfl, HBX.out⟩
      | true =>
        rw [hna] at HNA
        by_cases h300 : sumTo xss xss.length ≤ 300
        · have hs : decide ((300 : Int) < sumTo xss xss.length) = false := by simp; omega
          have HR := Lib.hid (show lightB bs xss = bs.all fun b => decide (b.2.length ≤ 30) && b.2.all nearB by rw [HL.out, hna]; simp [h8, h60, h300])
          rw [HR.out]
          clear HL hna HR h300
          generalize sumTo xss xss.length = sm at *
          generalize xss.length = n at *
          generalize hRR : (bs.all fun b => decide (b.2.length ≤ 30) && b.2.all nearB) = R at *
          have HRR := Lib.hid hRR; clear hRR
          go_enter Tryd.func6, Tryd.ntmps6
          go_wp2_with (first
            | (go_at_call 22; refine (HNA.out _ HBX.out).mono ?_; rintro e w' ⟨rfl, rfl⟩)
            | (go_at_call 23; refine (HCO'.out _ HBX.out).mono ?_; rintro e w' ⟨rfl, rfl⟩))
          go_loop [3] (fun i => ∃ k : Nat, k ≤ nb ∧ i = .int .i64 k ∧ Hid (((bs.take k).all fun b => decide (b.2.length ≤ 30) && b.2.all nearB) = true)) (fun i => nb - (intOf i).toNat)
          case atStart => exact ⟨0, Nat.zero_le _, rfl, by simp [Hid]⟩
          case round =>
            obtain ⟨k, hk, rfl, HQ2⟩ := hrel
            by_cases hlt : k < nb
            · obtain ⟨b, off, ha, hb, hc⟩ := HQ.out.resolve_left (by omega)
              subst ha
              obtain ⟨f0, v, f1, hv⟩ := hc k hlt
              have HBK := Lib.hid (HBAD.out k hlt)
              have HTT := Lib.hid (HTK.out k hlt)
              have HNE := Lib.hid (near_any v (bs.getD k blk0).2 _ (hv.keep HBX.out))
              clear hc f0
              obtain ⟨av, cv, rfl, _⟩ := hv
              generalize (bs.getD k blk0).2 = ys at *
              by_cases h30 : ys.length ≤ 30
              · have h30b : decide ((30 : Int) < ys.length) = false := by simp; omega
                cases hy : ys.all nearB with
                | false =>
                  have HE := Lib.hid (show R = false from HBK.out (by simp [hy]))
                  rw [hy] at HNE
                  clear HBK HTT hy h30
                  generalize ys.length = ml at *
                  go_wp2_with (go_at_call 24; refine HNE.out.mono ?_; rintro e w' ⟨rfl, rfl⟩)
                  (try go_ret)
                  exact ⟨by (rw [HE.out]; try rfl), HBX.out⟩
                | true =>
                  have HT2 := Lib.hid (show ((bs.take (k + 1)).all fun b => decide (b.2.length ≤ 30) && b.2.all nearB) = true by rw [HTT.out, HQ2.out]; simp [hy, h30])
                  rw [hy] at HNE
                  clear HBK HTT hy h30
                  generalize ys.length = ml at *
                  go_wp2_with (go_at_call 24; refine HNE.out.mono ?_; rintro e w' ⟨rfl, rfl⟩)
                  go_round
                  case rel => exact ⟨k + 1, by omega, by go_num, HT2.out⟩
                  case measure => simp [intOf]; omega
              · have h30b : decide ((30 : Int) < ys.length) = true := by simp; omega
                have HE := Lib.hid (show R = false from HBK.out (by simp [h30]))
                clear HBK HTT h30 HNE
                generalize ys.length = ml at *
                go_wp2_with fail
                (try go_ret)
                exact ⟨by (rw [HE.out]; try rfl), HBX.out⟩
            · have hkn : k = nb := by omega
              have HE := Lib.hid (show R = true by rw [← HRR.out]; have := HQ2.out; rwa [hkn, HALL.out] at this)
              clear HQ2
              go_wp2_with fail
              (try go_ret)
              exact ⟨by (rw [HE.out]; try rfl), HBX.out⟩
        · have hs : decide ((300 : Int) < sumTo xss xss.length) = true := by simp; omega
          have HR := Lib.hid (show lightB bs xss = false by rw [HL.out]; simp [h300])
          rw [HR.out]
          clear HL hna HR h300 HTK HBAD HALL
          generalize sumTo xss xss.length = sm at *
          generalize xss.length = n at *
          go_enter Tryd.func6, Tryd.ntmps6
          go_wp2_with (first
            | (go_at_call 22; refine (HNA.out _ HBX.out).mono ?_; rintro e w' ⟨rfl, rfl⟩)
            | (go_at_call 23; refine (HCO'.out _ HBX.out).mono ?_; rintro e w' ⟨rfl, rfl⟩))
          (try go_ret)
          exact ⟨rfl, HBX.out⟩
    · have h60b : decide ((60 : Int) < xss.length) = true := by simp; omega
      have HR := Lib.hid (show lightB bs xss = false by rw [HL.out]; simp [h60])
      rw [HR.out]
      clear HL HR HTK HBAD HALL HNA HCO h60
      generalize xss.length = n at *
      go_enter Tryd.func6, Tryd.ntmps6
      go_wp2_with fail
      (try go_ret)
      exact ⟨rfl, HBX.out⟩
  · have h8b : decide ((8 : Int) < nb) = true := by simp; omega
    have HR := Lib.hid (show lightB bs xss = false by rw [HL.out]; simp [h8])
    rw [HR.out]
    clear HL HR HTK HBAD HALL HNA HCO h8
    generalize xss.length = n at *
    go_enter Tryd.func6, Tryd.ntmps6
    go_wp2_with fail
    (try go_ret)
    exact ⟨rfl, HBX.out⟩
end Go.Proofs.YtcodmijphejfdaaDoor
