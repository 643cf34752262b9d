/- Contracts of look's Nodes and Eval: 'nodesV', 'evalV'. Conditions: the circuit is right, the rows read as those typed; the two errors lie as 'Sents2' says. -/
import Derived.Test.YtmgepagdkfghlaaDoorLkM
import Derived.Deep.DeepCutAuto
namespace Go.Proofs.YtmgepagdkfghlaaDoor
open Go.RowKit

set_option maxRecDepth 8000 in
set_option maxHeartbeats 4000000 in
theorem lnodes_any (A : Nat → Addr) (N : Nat) (u v q : Value) (ps : List (Int × Int)) (os : List Int) (ins : List Bool) (w : World) (hs : Sents2 w A) (hu : PRow w u ps) (hv : Row w v os) (hol : os.length ≤ 1000000) (hob : ∀ o ∈ os, in64 o) (hq : BRow w q ins) (_hnl : ins.length ≤ 1000) (hc : checkC (N : Int) ps os = 0) :
    Calls Tryd.prog 34 #[circV (N : Int) u v, q] w fun e w' => ∃ z, e = .returned z ∧ w'.ownsRow w.heap.size 4 1 z (N + 1 + ps.length) ((nodesV N ps ins).map Value.bool) ∧ Below w.heap.size w w' := by
  obtain ⟨hnm, hokp, hoko⟩ := check_zero8 hc
  have HCK := Lib.hid (fun W (hW : Below w.heap.size w W) => gcheck_any A (N : Int) u v ps os W (hs.keep hW) (hu.keep hW) (hv.keep hW) ⟨by omega, by omega⟩ (by omega) hol (okP_in hnm hokp) hob)
  rw [hc, show errC A 0 = .nilIface from rfl] at HCK
  obtain ⟨a1, c1, rfl, hu1, hu2, hu3⟩ := hu
  obtain ⟨a2, c2, rfl, hv1, hv2, hv3⟩ := hv
  obtain ⟨a3, c3, rfl, hq1, hq2, hq3⟩ := hq
  unfold maxLen at hu2 hv2 hq2
  have HU := Lib.hid hu3; clear hu3 hv3
  have HQ := Lib.hid hq3; clear hq3
  have HBX := Lib.hid (fun W hW => cirC_box w W (N : Int) (.slice a1 ps.length c1) (.slice a2 os.length c2) hW)
  unfold CirC at HBX
  have HB0 : Hid ((w.alloc (.cells #[.int .i64 (N : Int), .slice a1 ps.length c1, .slice a2 os.length c2] 25)).heap.size = w.heap.size + 1) := by unfold Hid; simp
  rw [← HB0.out] at HBX
  have HOKP := Lib.hid hokp
  have HTK := Lib.hid (fun k (hk : k < ps.length) => nodesV_take N ps ins k hk)
  have HLN : Hid (∀ k, k ≤ ps.length → (nodesV N (ps.take k) ins).length = N + 1 + k) := fun k hk => by rw [nodesV_len, List.length_take]; omega
  have HTE : Hid (ps.take ps.length = ps) := List.take_length
  have HIN := Lib.hid (inV_in N ins)
  have HIL := Lib.hid (inV_len N ins)
  obtain ⟨cs, hcs⟩ : ∃ cs, cs = (ins.take N).map Value.bool := ⟨_, rfl⟩
  have hcl : cs.length = Nat.min ins.length N := by rw [hcs, List.length_map, List.length_take]; exact Nat.min_comm _ _
  have HCG : Hid (∀ j x, cs[j]? = some x → j < N ∧ j < ins.length ∧ x = .bool (ins.getD j false)) := fun j x hj => by
    rw [hcs, List.getElem?_map] at hj
    by_cases h1 : j < N
    · by_cases h2 : j < ins.length
      · rw [List.getElem?_take_of_lt h1, List.getElem?_eq_getElem h2] at hj
        simp at hj
        exact ⟨h1, h2, by simp [List.getD, h2, hj]⟩
      · rw [List.getElem?_take_of_lt h1, List.getElem?_eq_none (by omega)] at hj; cases hj
    · rw [List.getElem?_eq_none (by simp; omega)] at hj; cases hj
  have HC1 : Hid (∀ x ∈ cs, x.oneCell' = true) := fun x hx => by
    rw [hcs] at hx
    obtain ⟨b, _, rfl⟩ := List.mem_map.1 hx
    rfl
  have HCL := Lib.hid hcl
  rw [← hcs] at HIN
  clear hc hokp hoko hs hob hcs hcl hu1 hv1 hv2 hol
  unfold circV at *
  generalize ps.length = m at *
  generalize os.length = lo at *
  generalize hil : ins.length = li at *
  clear hil
  go_enter Tryd.func34, Tryd.ntmps34
  go_wp2_with fail
  generalize w.alloc (.cells #[.int .i64 (N : Int), .slice a1 m c1, .slice a2 lo c2] 25) = w0 at *
  refine (HCK.out _ (HBX.out _ (Below.refl _ _)).2).mono ?_
  rintro e w1 ⟨rfl, hb1⟩
  have HB1 := Lib.hid hb1
  obtain ⟨⟨k0, k1, k2⟩, hbw⟩ := HBX.out _ hb1
  clear hbw hb1
  go_upto_region 4 with (at_make; refine wpList_makeH Value.bool false 40 4 1 Tryd.underlying40 infoBool9 rfl (by decide) rfl _ _ rfl w1 (1 + N) rfl rfl (by omega) ?_; intro w2 hh hb2 hsz2; rw [show 1 + N = N + 1 from Nat.add_comm 1 N]; have HH := Lib.hid hh; have HB2 := Lib.hid (HB1.out.trans (hb2.mono HB1.out.size)); have HB12 := Lib.hid hb2; obtain ⟨⟨t0, t1, t2⟩, hbw2⟩ := HBX.out _ HB2.out; have HBW2 := Lib.hid hbw2; clear hh hb2 k0 k1 k2 hbw2)
  rw [show 1 + N = N + 1 from Nat.add_comm 1 N] at HH
  have HSQ : Hid (w0.heap.size ≤ w1.heap.size) := HB1.out.size
  generalize w1.heap.size = q at *
  have HHI : Hid (∀ w3 : World, w3.heap[q]? = some (.cells (splice ((List.replicate (N + 1) false).map Value.bool) 1 cs).toArray 4 (0, 0)) → w3.ownsRow q 4 1 (.slice (some ⟨q, 0, none⟩) (N + 1) (N + 1)) (inV N ins).length ((inV N ins).map Value.bool)) := fun w3 h => by
    rw [HIN.out] at h
    rw [HIL.out]
    exact own_at h (Nat.le_refl _) (by rw [List.length_map, HIL.out]) (by unfold maxLen; omega)
  go_cut [5] (fun o w3 => o = .slice (some ⟨q, 0, none⟩) (N + 1) (N + 1) ∧ w3.ownsRow q 4 1 (.slice (some ⟨q, 0, none⟩) (N + 1) (N + 1)) (inV N ins).length ((inV N ins).map Value.bool) ∧ Below q w2 w3)
  case first =>
    rcases Nat.eq_zero_or_pos N with h0 | h0
    · subst h0
      have hcs0 : cs = [] := List.eq_nil_of_length_eq_zero (by rw [HCL.out]; exact Nat.min_zero _)
      have HH3 := Lib.hid (HHI.out w2 (by rw [hcs0]; exact HH.out))
      clear HHI HCG HQ HU HIN HIL HCL HC1
      go_wp2_with (refine wpList_copy_nothing rfl (.tmp 16) (.tmp 17) 40 40 rfl 4 Tryd.underlying40 (by kernel_rfl) _ _ _ _ _ _ rfl rfl (Nat.min_zero _) ?_)
      go_wp2_with fail
      go_meet
      exact ⟨rfl, HH3.out, Below.refl _ _⟩
    · have hpos : 0 < cs.length → ∃ ad, a3 = some ad ∧ ∀ j v, cs[j]? = some v → w2.cell? (ad.add j) = some v := fun hp => by
        have hli : li ≠ 0 := fun e => by rw [HCL.out, e] at hp; simp at hp
        obtain ⟨b, off, ha, hbl, hcl⟩ := HQ.out.resolve_left hli
        refine ⟨_, ha, fun j v hj => ?_⟩
        obtain ⟨h1, h2, rfl⟩ := HCG.out j v hj
        have := (HBW2.out.cell (p := ⟨b, off + j, none⟩) hbl).trans (hcl j h2)
        rwa [show (⟨b, off, none⟩ : Addr).add j = ⟨b, off + j, none⟩ by unfold Addr.add; split <;> simp_all]
      have HPOS := Lib.hid hpos
      have HFIT : Hid (1 + cs.length ≤ ((List.replicate (N + 1) false).map Value.bool).length) := by
        unfold Hid
        rw [List.length_map, List.length_replicate, HCL.out]
        have h : li.min N ≤ N := Nat.min_le_right li N
        omega
      have hne : ¬ N = 0 := by omega
      clear hpos
      go_wp2_with (refine wpList_copy_splice rfl (.tmp 16) (.tmp 17) 40 40 rfl 4 Tryd.underlying40 (by kernel_rfl) (some ⟨q, 1, none⟩) a3 N N li c3 rfl rfl q 1 _ 4 HH.out cs HCL.out (fun hp => ⟨rfl, HPOS.out hp⟩) HFIT.out HC1.out q w2 (Below.refl _ _) (Nat.le_refl _) ?_; intro w3 hw3 hb3)
      go_wp2_with fail
      go_meet
      exact ⟨rfl, HHI.out w3 hw3.out, hb3⟩
  case rest =>
    obtain ⟨rfl, hown, hb3⟩ := hcut
    obtain ⟨w3, rfl⟩ : ∃ w3 : World, w3 = wc := ⟨_, rfl⟩
    have HOWN := Lib.hid hown
    have HB3 := Lib.hid (HB2.out.trans (hb3.mono HSQ.out))
    have HSZ : Hid (q ≤ w3.heap.size) := Nat.le_trans (Nat.le_of_lt hsz2) hb3.size
    have HQM : Hid (w.heap.size ≤ q) := by unfold Hid; have := HSQ.out; have := HB0.out; omega
    clear t0 t1 t2 hown hb3 HB2 HB12 HBW2 HH HHI HCG HIN HCL HC1 HQ hsz2
    obtain ⟨⟨t0, t1, t2⟩, hbw3⟩ := HBX.out _ HB3.out
    clear hbw3
    go_wp2_with fail
    clear t0 t1 t2
    go_loopw [22, 5, 7] (fun i u _ wr => ∃ (k : Nat) (bs : List Bool), k ≤ m ∧ i = .int .i64 (k : Int) ∧ wr.ownsRow q 4 1 u bs.length (bs.map Value.bool) ∧ Below w0.heap.size w0 wr ∧ q ≤ wr.heap.size ∧ Hid (bs = nodesV N (ps.take k) ins)) (fun i _ _ _ => m - (intOf i).toNat)
    case atStart => exact ⟨0, inV N ins, Nat.zero_le _, rfl, by rw [HIL.out]; exact (by have := HOWN.out; rw [HIL.out] at this; exact this), HB3.out, HSZ.out, by rw [List.take_zero]; rfl⟩
    case round =>
      obtain ⟨k, bs, hk, rfl, hown, hbr, hsz, HS⟩ := hrel
      obtain ⟨ab, cb, rfl, _, hcb⟩ := own_shape hown
      unfold maxLen at hcb
      obtain ⟨⟨t0, t1, t2⟩, hbw⟩ := HBX.out _ hbr
      clear HOWN HB3 HSZ
      by_cases hlt : k < m
      · obtain ⟨b, off, ha, hbl, hcl⟩ := HU.out.resolve_left (by omega)
        subst ha
        obtain ⟨x0, x1⟩ := hcl k hlt
        have y0 := (hbw.cell (p := ⟨b, off + k * 2, none⟩) hbl).trans x0
        have y1 := (hbw.cell (p := ⟨b, off + k * 2 + 1, none⟩) hbl).trans x1
        obtain ⟨o1, o2, o3⟩ := (okP_iff _ _ _).1 (HOKP.out k hlt)
        have HTT := Lib.hid (HTK.out k hlt)
        rw [← HS.out] at HTT
        have hbl : bs.length = N + 1 + k := by rw [HS.out]; exact HLN.out k (by omega)
        have hbl2 : bs.length ≤ 10000 := by omega
        clear hcl x0 x1 hbw
        generalize ps.getD k (0, 0) = xy at *
        obtain ⟨x, y⟩ := xy
        simp only at o1 o2 o3 y0 y1 HTT
        have HOWN := Lib.hid hown
        have HW1 := Lib.hid (fun W (hW : Below wr.heap.size wr W) => lworth_any (.slice ab bs.length cb) bs x W ((show BRow wr (.slice ab bs.length cb) bs from own_rowG HOWN.out).keep hW) (by omega) (by omega) (by omega))
        have HW2 := Lib.hid (fun W (hW : Below wr.heap.size wr W) => lworth_any (.slice ab bs.length cb) bs y W ((show BRow wr (.slice ab bs.length cb) bs from own_rowG HOWN.out).keep hW) (by omega) (by omega) (by omega))
        have HBR := Lib.hid hbr
        have HPB : Hid (Below wr.heap.size wr (wr.alloc (.cells #[.int .i64 x, .int .i64 y] 59))) := (Below.refl _ _).alloc (Nat.le_refl _) _
        have HP2 := Lib.hid (own_keep HOWN.out HPB.out)
        have HP3 := Lib.hid (HBR.out.trans (HPB.out.mono HBR.out.size))
        have HP4 : Hid (q ≤ (wr.alloc (.cells #[.int .i64 x, .int .i64 y] 59)).heap.size) := Nat.le_trans hsz HPB.out.size
        obtain ⟨p0, p1⟩ := two_new wr wr.heap.size rfl (.int .i64 x) (.int .i64 y) 59
        have HV1 := Lib.hid (HW1.out _ HPB.out)
        have HV2 := Lib.hid (HW2.out _ HPB.out)
        clear hbr o1 o2 o3 hbl HW1 HW2 hown
        generalize hl8 : bs.length = n8 at *
        go_upto_region 8 with fail
        generalize wr.alloc (.cells #[.int .i64 x, .int .i64 y] 59) = wp at *
        have hsp : q ≤ wp.heap.size := HP4.out
        have howp := HP2.out
        cases hb1 : worthV bs x with
        | true =>
          rw [hb1] at HV1 HTT
          rw [Bool.true_and] at HTT
          generalize worthV bs y = b2 at *
          clear hb1
          go_wp2_with (first
            | (go_at_call_of 49 (Value.int IntKind.i64 x); refine HV1.out.mono ?_; rintro e w' ⟨rfl, rfl⟩)
            | (go_at_call 49; refine HV2.out.mono ?_; rintro e w' ⟨rfl, rfl⟩)
            | (at_builtin; refine wpList_app1G Value.bool 40 4 (.bool false) 1 Tryd.underlying40 infoBool9 rfl (by decide) rfl _ _ rfl wp q _ n8 _ b2 rfl howp hsp (by omega) rfl rfl ?_; intro u' w5 hown5 hap5))
          go_roundw
          case rel => exact ⟨k + 1, bs ++ [b2], by omega, by go_num, by rw [List.length_append, List.length_singleton, hl8]; exact hown5, HP3.out.trans (hap5.below.mono HSQ.out), Nat.le_trans hsp hap5.below.size, HTT.out.symm⟩
          case measure => simp [intOf]; omega
        | false =>
          rw [hb1] at HV1 HTT
          rw [Bool.false_and] at HTT
          clear hb1
          go_wp2_with (first
            | (go_at_call_of 49 (Value.int IntKind.i64 x); refine HV1.out.mono ?_; rintro e w' ⟨rfl, rfl⟩)
            | (at_builtin; refine wpList_app1G Value.bool 40 4 (.bool false) 1 Tryd.underlying40 infoBool9 rfl (by decide) rfl _ _ rfl wp q _ n8 _ false rfl howp hsp (by omega) rfl rfl ?_; intro u' w5 hown5 hap5))
          go_roundw
          case rel => exact ⟨k + 1, bs ++ [false], by omega, by go_num, by rw [List.length_append, List.length_singleton, hl8]; exact hown5, HP3.out.trans (hap5.below.mono HSQ.out), Nat.le_trans hsp hap5.below.size, HTT.out.symm⟩
          case measure => simp [intOf]; omega
      · have hkm : m = k := by omega
        have HR : Hid (bs = nodesV N ps ins) := by
          have := HS.out
          rw [← hkm, HTE.out] at this
          exact this
        have HLL : Hid (bs.length = N + 1 + m) := by
          unfold Hid
          rw [HS.out, hkm]
          exact HLN.out k hk
        have HO : Hid (wr.ownsRow w.heap.size 4 1 (.slice ab bs.length cb) (N + 1 + m) ((nodesV N ps ins).map Value.bool)) := by
          unfold Hid
          rw [← HR.out, ← HLL.out]
          exact own_base hown HQM.out
        have HBW := Lib.hid hbw
        clear hown hbr hbw hsz
        go_wp2_with fail
        go_ret
        exact ⟨_, rfl, HO.out, HBW.out⟩

theorem eqN_B (a : Option Addr) (l c : Nat) (w : World) : (binOp .eql 40 (.slice a l c) (.slice none 0 0)).run Tryd.prog w = .ok (.bool a.isNone) w := by
  have h := run_equal_slice_nil (P := Tryd.prog) (w := w) 40 4 a l c Tryd.underlying40
  simp [binOp, h, Result.andThen]

end Go.Proofs.YtmgepagdkfghlaaDoor
