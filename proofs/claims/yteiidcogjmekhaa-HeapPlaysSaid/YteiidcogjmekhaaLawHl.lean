/- The walk of skolemlaw14.HeapPlays: it answers true. Conditions: the arguments read as 64-bit ints. -/
import Derived.Test.YteiidcogjmekhaaHpQ
import Derived.Deep.CutBlock
import Derived.Deep.DeepCutAuto
namespace Go.Proofs.Yteiidcogjmekhaa
open Go.RowKit

set_option maxRecDepth 8000 in
set_option maxHeartbeats 8000000 in
theorem lawHl (vars : Int) (la : Option Addr) (lc : Nat) (ds : List Do3) (ask : Int) (w : World) (hv1 : -9223372036854775808 ≤ vars) (_hv2 : vars ≤ 9223372036854775807) (hq1 : -9223372036854775808 ≤ ask) (hq2 : ask ≤ 9223372036854775807)
    (hd : Do3At w la lc ds) (hdb : ∀ d ∈ ds, bd3 d.1 ∧ bd3 d.2.1 ∧ bd3 d.2.2) :
    Calls Try.prog 3 #[.int .i64 vars, .slice la ds.length lc, .int .i64 ask] w fun e w' => e = .returned (.bool true) ∧ Below w.heap.size w w' := by
  obtain ⟨hd1, hd2, hd3⟩ := hd
  unfold maxLen at hd2
  have HX := Lib.hid hd3; clear hd3
  have HDB : Hid (∀ k, k < ds.length → bd3 (ds.getD k (0, 0, 0)).1 ∧ bd3 (ds.getD k (0, 0, 0)).2.1 ∧ bd3 (ds.getD k (0, 0, 0)).2.2) := fun k hk => hdb _ (by simp [List.getD, hk])
  clear hdb
  generalize hn : ds.length = n at *
  have HN := Lib.hid hn; clear hn
  by_cases g1 : 100 < n
  · have d1 : decide ((100 : Int) < (n : Int)) = true := decide_eq_true (by omega)
    clear g1
    go_enter Try.func3, Try.ntmps3
    go_wp2_with (go_at_call 6; refine (first14_any _).mono ?_; rintro e w1 ⟨rfl, hb⟩)
    go_ret
    exact ⟨rfl, hb⟩
  · have d1 : decide ((100 : Int) < (n : Int)) = false := decide_eq_false (by omega)
    by_cases g2 : 60 < vars
    · have d2 : decide (60 < vars) = true := decide_eq_true g2
      clear g2
      go_enter Try.func3, Try.ntmps3
      go_wp2_with (go_at_call 6; refine (first14_any _).mono ?_; rintro e w1 ⟨rfl, hb⟩)
      go_ret
      exact ⟨rfl, hb⟩
    · have d2 : decide (60 < vars) = false := decide_eq_false g2
      have hv3 : vars ≤ 60 := by omega
      have hn100 : n ≤ 100 := by omega
      clear g1 g2
      go_enter Try.func3, Try.ntmps3
      go_wp2_with fail
      refine (first14_any _).mono ?_
      rintro e w1 ⟨rfl, hb⟩
      have H0 := Lib.hid (hsNew hb vars hv1 hv3)
      clear hb
      go_wp2_with fail
      refine H0.out.mono ?_
      rintro e w2 ⟨u, rfl, hG⟩
      obtain ⟨p, rfl⟩ := hG.ptr
      have HG := Lib.hid hG
      clear hG
      have H1 := Lib.hid (rnew_any w2 vars hv1 hv3)
      go_wp2_with fail
      refine H1.out.mono ?_
      rintro e w3 ⟨x, R, rfl, hR, hRn, hb3⟩
      obtain ⟨p2, rfl⟩ : ∃ p2, x = .pointer (some ⟨p2, 0, none⟩) := by
        obtain ⟨p2, a, b, ca, cb, e, _⟩ := hR
        exact ⟨p2, e⟩
      have HP := Lib.hid (PSt.start HG.out hb3 hR hRn)
      clear hR hRn hb3 HG H1
      generalize newH vars = h0 at *
      go_wp2_with fail
      clear d1 d2
      go_loopw [10, 11, 12, 13, 14, 15, 16, 17, 18, 19] (fun i _ _ _ _ _ _ _ _ _ wr => ∃ (k : Nat) (h : Hp), k ≤ n ∧ i = .int .i64 (k : Int) ∧ PSt w (.pointer (some ⟨p, 0, none⟩)) (.pointer (some ⟨p2, 0, none⟩)) h h wr) (fun i _ _ _ _ _ _ _ _ _ _ => n - (intOf i).toNat)
      case atStart => exact ⟨0, h0, Nat.zero_le _, rfl, HP.out⟩
      case round =>
        obtain ⟨k, h, hk, rfl, hP⟩ := hrel
        clear HP
        have HP := Lib.hid hP
        have HBW := Lib.hid hP.bel
        clear hP
        by_cases hlt : k < n
        · obtain ⟨b, off, ha, hbl, hc⟩ := HX.out.resolve_left (by omega)
          subst ha
          obtain ⟨c0, c1, c2⟩ := hc k hlt
          have y0 := (HBW.out.cell (p := ⟨b, off + k * 3, none⟩) hbl).trans c0
          have y1 := (HBW.out.cell (p := ⟨b, off + k * 3 + 1, none⟩) hbl).trans c1
          have y2 := (HBW.out.cell (p := ⟨b, off + k * 3 + 2, none⟩) hbl).trans c2
          obtain ⟨z0, z1, z2⟩ := HDB.out k hlt
          have HYW : Hid (∀ V, Below w.heap.size w V → V.cell? ⟨b, off + k * 3 + 2, none⟩ = some (.int .i64 (ds.getD k (0, 0, 0)).2.2)) := fun V hV => (hV.cell (p := ⟨b, off + k * 3 + 2, none⟩) hbl).trans c2
          clear hc c0 c1 c2
          generalize ds.getD k (0, 0, 0) = d at *
          obtain ⟨kd, z, m⟩ := d
          simp only at y0 y1 y2 z0 z1 z2 HYW
          unfold bd3 at z0 z1 z2
          obtain ⟨z01, z02⟩ := z0
          obtain ⟨z11, z12⟩ := z1
          obtain ⟨z21, z22⟩ := z2
          have hlt2 : (k : Int) < (n : Int) := by omega
          go_upto_region 15 with fail
          go_upto_block 2 with fail
          go_cut [12, 13, 14, 15, 16, 17] (fun gv _ _ _ _ _ W => gv = .bool true ∧ ∃ h', PSt w (.pointer (some ⟨p, 0, none⟩)) (.pointer (some ⟨p2, 0, none⟩)) h' h' W)
          case first =>
            by_cases k1 : kd = 1
            · have b1 : (kd == 1) = true := by simp [k1]
              have HL := Lib.hid (psL HP.out (fun S hS => hpush_any wr hS z z11 z12))
              have HPN := HP
              clear k1 HP
              go_wp2_with fail
              refine HL.out.mono ?_
              rintro e w4 ⟨rfl, hP4⟩
              have HR := Lib.hid (psR hP4 (fun S hS => rpush_any w4 hS z z11 z12))
              clear hP4
              have hbb : (pushOk h z == pushOk h z) = true := by simp
              go_wp2_with fail
              refine HR.out.mono ?_
              rintro e w5 ⟨rfl, hP5⟩
              have HP5 := Lib.hid hP5
              clear hP5
              go_wp2_with fail
              go_meet
              exact ⟨by simp, _, HP5.out⟩
            · have b1 : (kd == 1) = false := by simp [k1]
              by_cases k2 : kd = 2
              · have b2 : (kd == 2) = true := by simp [k2]
                have HL := Lib.hid (psL HP.out (fun S hS => hpop_any wr hS m z21 z22))
                clear k1 k2
                go_wp2_with fail
                refine HL.out.mono ?_
                rintro e w4 ⟨rfl, hP4⟩
                have HR := Lib.hid (psR hP4 (fun S hS => rpop_any w4 hS m z21 z22))
                have y4 := HYW.out _ hP4.bel
                clear hP4
                have hbb : (popV h m == popV h m) = true := by simp
                have hbc : (popB h == popB h) = true := by simp
                go_wp2_with fail
                refine HR.out.mono ?_
                rintro e w5 ⟨rfl, hP5⟩
                have HP5 := Lib.hid hP5
                clear hP5
                go_wp2_with fail
                go_meet
                exact ⟨by simp, _, HP5.out⟩
              · have b2 : (kd == 2) = false := by simp [k2]
                by_cases k3 : kd = 3
                · have b3 : (kd == 3) = true := by simp [k3]
                  have HPN : Hid (PSt w (.pointer (some ⟨p, 0, none⟩)) (.pointer (some ⟨p2, 0, none⟩)) h h wr.drew) := HP.out.keep (Below.refl _ _).drew
                  have Y0 := Lib.hid (HYW.out _ HBW.out)
                  have Y1 := Lib.hid (HYW.out _ HPN.out.bel)
                  have hbb : (bumpA h z m == bumpA h z m) = true := by simp
                  have hk0 : (0 : Int) ≤ (k : Int) := by omega
                  clear k1 k2 k3 y0 y1 y2
                  go_upto_region 26 with fail
                  go_region_held3 (fun V => V.cell? ⟨b, off + k * 3 + 2, none⟩ = some (.int .i64 m)) (first | (with_reducible exact Y0.out) | (with_reducible exact Y1.out) | (with_reducible exact HYW.out _ HPN.out.bel)) (first
                    | (go_simp; go_at_call 13; refine (psL HPN.out (fun S hS => hbump_any _ hS z m z21 z22)).mono ?_; rintro e w4 ⟨rfl, hP4⟩; replace HPN := Lib.hid hP4; clear hP4)
                    | (go_simp; go_at_call 14; refine (psR HPN.out (fun S hS => rbump_any _ hS z m z21 z22)).mono ?_; rintro e w5 ⟨rfl, hP5⟩; replace HPN := Lib.hid hP5; clear hP5))
                  all_goals
                    go_wp2_with fail
                    go_meet
                    exact ⟨by simp, _, HPN.out⟩
                · have b3 : (kd == 3) = false := by simp [k3]
                  by_cases k4 : kd = 4
                  · have b4 : (kd == 4) = true := by simp [k4]
                    have HL := Lib.hid (psL HP.out (fun S hS => hhalve_any wr hS))
                    clear k1 k2 k3 k4
                    go_wp2_with fail
                    refine HL.out.mono ?_
                    rintro e w4 ⟨rfl, hP4⟩
                    have HR := Lib.hid (psR hP4 (fun S hS => rhalve_any w4 hS))
                    clear hP4
                    go_wp2_with fail
                    refine HR.out.mono ?_
                    rintro e w5 ⟨rfl, hP5⟩
                    have HP5 := Lib.hid hP5
                    clear hP5
                    go_wp2_with fail
                    go_meet
                    exact ⟨rfl, _, HP5.out⟩
                  · have b4 : (kd == 4) = false := by simp [k4]
                    have HNB := Lib.hid (number_any m 60 wr (by decide) (by decide) z21 z22)
                    have m1 := Int.emod_nonneg m (show (60 : Int) ≠ 0 by decide)
                    have m2 := Int.emod_lt_of_pos m (show (0 : Int) < 60 by decide)
                    generalize m % 60 = r at *
                    have HL := Lib.hid (psL HP.out (fun S hS => hgrow_any wr hS r (by omega) (by omega)))
                    clear k1 k2 k3 k4
                    go_wp2_with fail
                    refine HNB.out.mono ?_
                    rintro e w' ⟨rfl, rfl⟩
                    go_wp2_with fail
                    refine HL.out.mono ?_
                    rintro e w4 ⟨rfl, hP4⟩
                    have HR := Lib.hid (psR hP4 (fun S hS => rgrow_any w4 hS r (by omega) (by omega)))
                    clear hP4
                    go_wp2_with fail
                    refine HR.out.mono ?_
                    rintro e w5 ⟨rfl, hP5⟩
                    have HP5 := Lib.hid hP5
                    clear hP5
                    go_wp2_with fail
                    go_meet
                    exact ⟨rfl, _, HP5.out⟩
          case rest =>
            obtain ⟨rfl, h', hP⟩ := hcut
            clear HP HBW y0 y1 y2 HYW
            have HP5 := Lib.hid hP
            obtain ⟨R5, hR⟩ := hP.ref
            have HLN := Lib.hid (hsLen hP.hst)
            have HRL := Lib.hid (rlen_any wc hR)
            have HHS := Lib.hid (hsHas hP.hst ask)
            have HSC := Lib.hid (hsScore hP.hst ask)
            have hw := hP.wf
            obtain ⟨p3, a, bb, ca, cb, hp3, _, hA, _⟩ := hR
            injection hp3 with hp3
            injection hp3 with hp3
            injection hp3 with hp3 _ _
            subst hp3
            have q0 := hA.c0
            have q1 := hA.c1
            rw [hw.len] at q1
            have HAI := Lib.hid (fun i hi => hA.isin (i := i) hi)
            have HAS := Lib.hid (fun i hi => hA.score (i := i) hi)
            have HWL := Lib.hid hw.len
            clear hP hA hw
            generalize ((manyH h' : Nat) : Int) = M at *
            have hMM : (M != M) = false := by simp
            by_cases ka : 0 < ask
            · have b1 : decide (0 < ask) = true := decide_eq_true ka
              by_cases kb : ask < (h'.ss.length : Int)
              · obtain ⟨kk, rfl⟩ := Int.eq_ofNat_of_zero_le (show 0 ≤ ask by omega)
                have hki : kk < h'.ss.length := by omega
                have x0 := HAI.out kk (by rw [HWL.out]; exact hki)
                have x1 := HAS.out kk hki
                have hh : hasH h' (kk : Int) = h'.ins.getD kk false := by unfold hasH; rw [isH_iff.2 ⟨ka, kb⟩]; rfl
                have hs : scoreH h' (kk : Int) = h'.ss.getD kk 0 := by unfold scoreH; rw [if_pos (isH_iff.2 ⟨ka, kb⟩)]; rfl
                rw [hh] at HHS
                rw [hs] at HSC
                clear hh hs HAI HAS
                generalize h'.ins.getD kk false = xin at *
                generalize h'.ss.getD kk 0 = xs at *
                generalize h'.ss.length = L at *
                have hxx : (xs != xs) = false := by simp
                have b2 : decide ((kk : Int) < (L : Int)) = true := decide_eq_true kb
                cases xin with
                | true =>
                  go_wp2_with fail
                  refine HLN.out.mono ?_
                  rintro e w' ⟨rfl, rfl⟩
                  go_wp2_with fail
                  refine HRL.out.mono ?_
                  rintro e w' ⟨rfl, rfl⟩
                  go_wp2_with fail
                  refine HHS.out.mono ?_
                  rintro e w' ⟨rfl, rfl⟩
                  go_wp2_with fail
                  refine HSC.out.mono ?_
                  rintro e w' ⟨rfl, rfl⟩
                  go_wp2_with fail
                  go_roundw
                  case rel => exact ⟨k + 1, h', by omega, by go_num, HP5.out⟩
                  case measure => go_light; simp [intOf]; omega
                | false =>
                  go_wp2_with fail
                  refine HLN.out.mono ?_
                  rintro e w' ⟨rfl, rfl⟩
                  go_wp2_with fail
                  refine HRL.out.mono ?_
                  rintro e w' ⟨rfl, rfl⟩
                  go_wp2_with fail
                  refine HHS.out.mono ?_
                  rintro e w' ⟨rfl, rfl⟩
                  go_wp2_with fail
                  refine HSC.out.mono ?_
                  rintro e w' ⟨rfl, rfl⟩
                  go_wp2_with fail
                  go_roundw
                  case rel => exact ⟨k + 1, h', by omega, by go_num, HP5.out⟩
                  case measure => go_light; simp [intOf]; omega
              · have b2 : decide (ask < (h'.ss.length : Int)) = false := decide_eq_false kb
                have hi : isH h' ask = false := by rw [Bool.eq_false_iff]; intro hh; rw [isH_iff] at hh; omega
                have hh : hasH h' ask = false := by unfold hasH; rw [hi]; rfl
                have hs : scoreH h' ask = 0 := by unfold scoreH; rw [hi]; rfl
                rw [hh] at HHS
                rw [hs] at HSC
                clear hh hs hi HAI HAS kb
                generalize h'.ss.length = L at *
                go_wp2_with fail
                refine HLN.out.mono ?_
                rintro e w' ⟨rfl, rfl⟩
                go_wp2_with fail
                refine HRL.out.mono ?_
                rintro e w' ⟨rfl, rfl⟩
                go_wp2_with fail
                refine HHS.out.mono ?_
                rintro e w' ⟨rfl, rfl⟩
                go_wp2_with fail
                refine HSC.out.mono ?_
                rintro e w' ⟨rfl, rfl⟩
                go_wp2_with fail
                go_roundw
                case rel => exact ⟨k + 1, h', by omega, by go_num, HP5.out⟩
                case measure => go_light; simp [intOf]; omega
            · have b1 : decide (0 < ask) = false := decide_eq_false ka
              have hi : isH h' ask = false := by rw [Bool.eq_false_iff]; intro hh; rw [isH_iff] at hh; omega
              have hh : hasH h' ask = false := by unfold hasH; rw [hi]; rfl
              have hs : scoreH h' ask = 0 := by unfold scoreH; rw [hi]; rfl
              rw [hh] at HHS
              rw [hs] at HSC
              clear hh hs hi HAI HAS ka
              generalize h'.ss.length = L at *
              go_wp2_with fail
              refine HLN.out.mono ?_
              rintro e w' ⟨rfl, rfl⟩
              go_wp2_with fail
              refine HRL.out.mono ?_
              rintro e w' ⟨rfl, rfl⟩
              go_wp2_with fail
              refine HHS.out.mono ?_
              rintro e w' ⟨rfl, rfl⟩
              go_wp2_with fail
              refine HSC.out.mono ?_
              rintro e w' ⟨rfl, rfl⟩
              go_wp2_with fail
              go_roundw
              case rel => exact ⟨k + 1, h', by omega, by go_num, HP5.out⟩
              case measure => go_light; simp [intOf]; omega
        · have hkn : k = n := by omega
          have e1 : decide ((k : Int) < (n : Int)) = false := decide_eq_false (by omega)
          have e2 : decide (k < n) = false := decide_eq_false hlt
          clear hkn hlt
          go_wp2_with fail
          go_ret
          exact ⟨rfl, HBW.out⟩
end Go.Proofs.Yteiidcogjmekhaa
