/- The contract of tseitin.Encode where nothing is amiss: 'encC'. Conditions: the circuit is right, its literals and those to be forced too; all read as 64-bit ints, not too many; the two errors lie as 'Sents2' says. -/
import Derived.Test.YtmgepagdkfghlaaDoorTsE
import Derived.Test.YtmgepagdkfghlaaDoorLkA
namespace Go.Proofs.YtmgepagdkfghlaaDoor
open Go.RowKit

def ld66 : Op := Op.load 27 (Operand.tmp 66)
theorem ld66_eq : ld66 = Op.load 27 (Operand.tmp 66) := rfl
def ld74 : Op := Op.load 27 (Operand.tmp 74)
theorem ld74_eq : ld74 = Op.load 27 (Operand.tmp 74) := rfl
def ld82 : Op := Op.load 27 (Operand.tmp 82)
theorem ld82_eq : ld82 = Op.load 27 (Operand.tmp 82) := rfl

set_option maxRecDepth 8000 in
set_option maxHeartbeats 4000000 in
theorem tenc_ok (A : Nat → Addr) (N : Nat) (u v f : Value) (ps : List (Int × Int)) (os fs : List Int) (w : World) (hs : Sents2 w A) (hu : PRow w u ps) (hv : Row w v os) (hf : Row w f fs) (hol : os.length ≤ 1000000)
    (hpb : ∀ x ∈ ps, in64 x.1 ∧ in64 x.2) (hob : ∀ o ∈ os, in64 o) (hfb : ∀ l ∈ fs, in64 l) (hc : checkC (N : Int) ps os = 0) (hok : fs.all (okO (N + ps.length)) = true) (hfl : fs.length ≤ 1000) :
    Calls Tryd.prog 8 #[circV (N : Int) u v, f] w (EncPost A w 0 ((N : Int) + (ps.length : Int)) (encC N ps fs)) := by
  obtain ⟨hnm, hokp, hoko⟩ := check_zero8 hc
  have HCK := Lib.hid (fun W (hW : Below w.heap.size w W) => gcheck_any A (N : Int) u v ps os W (hs.keep hW) (hu.keep hW) (hv.keep hW) ⟨by omega, by omega⟩ (by omega) hol hpb hob)
  rw [hc, show errC A 0 = .nilIface from rfl] at HCK
  unfold EncPost
  rw [show errC A 0 = .nilIface from rfl]
  obtain ⟨a1, c1, rfl, hu1, hu2, hu3⟩ := hu
  obtain ⟨a2, c2, rfl, hv1, hv2, hv3⟩ := hv
  obtain ⟨a3, c3, rfl, hf1, hf2, hf3⟩ := hf
  unfold maxLen at hf2
  have HF := Lib.hid hf3
  have HES := Lib.hid (ES.start w (N : Int) (.slice a1 ps.length c1) (.slice a2 os.length c2) 25 29)
  have HB := Lib.hid (es_bel w (.cells #[.int .i64 (N : Int), .slice a1 ps.length c1, .slice a2 os.length c2] 25) (.cells #[.int .i64 0, .slice none 0 0] 29))
  have HFB : Hid (∀ k, k < fs.length → in64 (fs.getD k 0)) := fun k hk => hfb _ (by simp [List.getD, hk])
  have HTE : Hid (fs.take fs.length = fs) := List.take_length
  have HU := Lib.hid hu3
  have HOKP := Lib.hid hokp
  have HFN : Hid (∀ k, k < fs.length → 0 ≤ fs.getD k 0 ∧ fs.getD k 0 / 2 ≤ ((N + ps.length : Nat) : Int)) := fun k hk => (okO_iff _ _).1 (List.all_eq_true.1 hok _ (by simp [List.getD, hk]))
  have HGN := Lib.hid (fun k => gatesC_succ N ps k)
  have HFT := Lib.hid (fun k hk => forceC_take fs k hk)
  have HGL := Lib.hid (fun k => gatesC_len N ps k)
  have HFL := Lib.hid (fun k => forceC_len (fs.take k))
  have HEN : Hid (encC N ps fs = gatesC N ps ps.length ++ forceC fs) := rfl
  generalize encC N ps fs = fin at *
  clear hs hu1 hu2 hu3 hv1 hv2 hv3 hf3 hol hpb hob hfb hc hokp hoko hok
  unfold circV at *
  generalize ps.length = m at *
  generalize os.length = l at *
  generalize hr : fs.length = r at *
  have HR := Lib.hid hr; clear hr
  have HC1 := Lib.hid (HCK.out _ HB.out)
  clear HCK
  go_enter Tryd.func8, Tryd.ntmps8
  go_wp2_with fail
  generalize (w.alloc (.cells #[.int .i64 (N : Int), .slice a1 m c1, .slice a2 l c2] 25)).alloc (.cells #[.int .i64 0, .slice none 0 0] 29) = w0 at *
  refine HC1.out.mono ?_
  rintro e w1 ⟨rfl, hb1⟩
  have HE1 := Lib.hid (HES.out.below (hb1.mono HES.out.sz))
  have HB1 := Lib.hid (HB.out.trans (hb1.mono HB.out.size))
  have HV1 := Lib.hid (EV.start w1 ((N : Int) + (m : Int)) 29)
  have HQ1 : Hid (w.heap.size + 2 ≤ w1.heap.size) := HE1.out.sz
  obtain ⟨z0, z1, z2, r0, r1, rf, rs⟩ := HE1.out
  clear hb1
  go_wp2_with fail
  generalize hw2 : w1.alloc (.cells #[.int .i64 ((N : Int) + (m : Int)), .slice none 0 0] 29) = w2 at *
  have HE2 := Lib.hid (HE1.out.below (HV1.out.bel.mono HQ1.out))
  have HB2 := Lib.hid (HB1.out.trans (HV1.out.bel.mono (by have := HQ1.out; omega)))
  clear hw2 z0 z1 z2 r0 r1 rf rs
  obtain ⟨v0, v1, vf, vl, _, _⟩ := HV1.out
  go_loop [32, 9] (fun i _ => ∃ k : Nat, k ≤ r ∧ i = .int .i64 (k : Int)) (fun i _ => r - (intOf i).toNat)
  case atStart => exact ⟨0, Nat.zero_le _, rfl⟩
  case round =>
    obtain ⟨k, hk, rfl⟩ := hrel
    by_cases hlt : k < r
    · obtain ⟨b, off, ha, hbl, hcl⟩ := HF.out.resolve_left (by omega)
      subst ha
      have y0 := (HB2.out.cell (p := ⟨b, off + k, none⟩) hbl).trans (hcl k hlt)
      obtain ⟨p1, p2⟩ := HFB.out k hlt
      clear hcl
      have hi2 := HFN.out k hlt
      generalize fs.getD k 0 = y at *
      have d1 : decide (y < 0) = false := decide_eq_false (by omega)
      have d2 : decide ((N : Int) + (m : Int) < y / 2) = false := decide_eq_false (by omega)
      have q1 : ¬ y < 0 := by omega
      have q2 : ¬ (N : Int) + (m : Int) < y / 2 := by omega
      clear hi2
      go_wp2_with fail
      go_round
      case rel => exact ⟨k + 1, by omega, by go_num⟩
      case measure => simp [intOf]; omega
    · have hk2 : k = r := by omega
      subst hk2
      clear HFB hlt hk
      have hz := HE2.out.c1
      have hz0 := HE2.out.c0
      go_wp2_with fail
      have HEV2 : Hid (EV w1 w1.heap.size ((N : Int) + (m : Int)) (.slice none 0 0) (gatesC N ps 0) w2) := HV1.out
      clear hz hz0 v0 v1 vf vl
      go_loopg [51, 10, 11, 12, 13, 14] m (fun gh i _ _ _ _ _ wr => ∃ (j : Nat) (o : Value), j ≤ m ∧ gh = m - j ∧ i = .int .i64 (j : Int) ∧ EV w1 w1.heap.size ((N : Int) + (m : Int)) o (gatesC N ps j) wr)
      case atStart => exact ⟨0, _, Nat.zero_le _, rfl, rfl, HEV2.out⟩
      case round =>
        obtain ⟨j, o, hj, rfl, rfl, hev⟩ := hrel
        clear HEV2
        have HV := Lib.hid hev
        have HEW := Lib.hid (HE1.out.below (hev.bel.mono HQ1.out))
        have HBW := Lib.hid (HB1.out.trans (hev.bel.mono (by have := HQ1.out; omega)))
        clear hev
        by_cases hlt : j < m
        · obtain ⟨b, off, ha, hbl, hcl⟩ := HU.out.resolve_left (by omega)
          subst ha
          obtain ⟨x0, x1⟩ := hcl j hlt
          have y0 := (HBW.out.cell (p := ⟨b, off + j * 2, none⟩) hbl).trans x0
          have y1 := (HBW.out.cell (p := ⟨b, off + j * 2 + 1, none⟩) hbl).trans x1
          obtain ⟨o1, o2, o3⟩ := (okP_iff _ _ _).1 (HOKP.out j hlt)
          have HXL : Hid ((gatesC N ps j).length ≤ 30000) := by have := HGL.out j; unfold Hid; omega
          have HGJ := Lib.hid (HGN.out j)
          clear hcl x0 x1
          generalize (ps.getD j (0, 0)) = xy at *
          obtain ⟨x, y⟩ := xy
          simp only at o1 o2 o3 y0 y1 HGJ
          have hHB : Below wr.heap.size wr (wr.alloc (.cells #[.int .i64 x, .int .i64 y] 59)) := (Below.refl _ _).alloc (Nat.le_refl _) _
          have HVP := Lib.hid (HV.out.keep hHB)
          have HEP := Lib.hid (HEW.out.below (hHB.mono HEW.out.sz))
          obtain ⟨p0, p1⟩ := two_new wr wr.heap.size rfl (.int .i64 x) (.int .i64 y) 59
          obtain ⟨z0, z1, z2, r0, r1, rf, rs⟩ := HEP.out
          have q1 : IntKind.i64.wrap ((N : Int) + (j : Int)) = (N : Int) + (j : Int) := IntWalk.i64_in _ (by omega)
          have q2 : IntKind.i64.wrap ((N : Int) + (j : Int) + 1) = (N : Int) + (j : Int) + 1 := IntWalk.i64_in _ (by omega)
          have q3 : IntKind.i64.wrap (2 * ((N : Int) + (j : Int) + 1)) = 2 * ((N : Int) + (j : Int) + 1) := IntWalk.i64_in _ (by omega)
          go_upto_region 14 with fail
          go_quiet (fail)
          go_wp2_with fail
          clear p0 p1 z0 z1 z2 r0 r1 rf rs y0 y1 HEP HEW HBW q1 q2 q3
          generalize hn : 2 * ((N : Int) + (j : Int) + 1) = n at *
          have hn2 : 2 ≤ n ∧ n % 2 = 0 ∧ n < 100000 := by omega
          obtain ⟨n1, n2, n3⟩ := hn2
          have HNN := Lib.hid (fun W => gnot_any n W (by omega) (by omega))
          rw [show notI n = n + 1 from if_pos n2] at HNN
          have HNX := Lib.hid (fun W => gnot_any x W (by omega) (by omega))
          have HNY := Lib.hid (fun W => gnot_any y W (by omega) (by omega))
          have nx := notI_nat (show 0 ≤ x by omega)
          have ny := notI_nat (show 0 ≤ y by omega)
          have HVQ := Lib.hid (HVP.out.keep (below_drewN (Below.refl _ _) nq))
          generalize (wr.alloc (.cells #[.int .i64 x, .int .i64 y] 59)).drewN nq = wp at *
          clear HV HVP hHB
          have HV := Lib.hid HVQ.out
          have HXL2 : Hid ((gatesC N ps j).length ≤ 1000000) := by have := HXL.out; unfold Hid; omega
          clear HXL HVQ
          have HXL := Lib.hid HXL2.out
          clear HXL2
          go_upto_region 15 with fail
          go_cut [51] (fun i W => i = .int .i64 (j : Int) ∧ ∃ o', EV w1 w1.heap.size ((N : Int) + (m : Int)) o' (gatesC N ps j ++ withL [n + 1, x]) W)
          case first =>
            obtain ⟨ao, lo, co, rfl⟩ := HV.out.row.shape
            have hV0 : Below wp.heap.size wp wp.drew := (Below.refl _ _).drew
            have hVA : Below wp.heap.size wp (wp.drew.alloc (.cells ([n + 1, x].map (Value.int .i64)).toArray 3)) := hV0.alloc (Nat.le_refl _) _
            have HROW := Lib.hid (row_lit13 wp.drew [n + 1, x] (by simp))
            have HWI := Lib.hid (with_any _ (.slice (some ⟨wp.heap.size, 0, none⟩) 2 2) (w1.heap.size + 1) _ [n + 1, x] (wp.drew.alloc (.cells ([n + 1, x].map (Value.int .i64)).toArray 3)) (HV.out.row.keep hVA) (by have := HV.out.lt; simp; omega) HROW.out (by simp) (by intro z hz; simp at hz; omega) HXL.out)
            have e0 := Lib.hid (HV.out.keep hV0).c0
            have e1 := (HV.out.keep hV0).c1
            have a0 := Lib.hid (HV.out.keep hVA).c0
            have g1 := (HV.out.keep hVA).c1
            have g2 : ((wp.alloc (.cells #[.int .i64 (n + 1), .int .i64 (x)] 3)).drew).cell? ⟨w1.heap.size, 1, none⟩ = some (.slice ao lo co) := g1
            have a2 : Hid (((wp.alloc (.cells #[.int .i64 (n + 1), .int .i64 (x)] 3)).drew).cell? ⟨w1.heap.size, 0, none⟩ = some (.int .i64 ((N : Int) + (m : Int)))) := a0
            have b0 := Lib.hid HV.out.c0
            have HVA := Lib.hid hVA
            clear hVA hV0
            rw [← ld66_eq]
            have hld := ld66_eq
            go_region_held3 (fun W => W.cell? ⟨w1.heap.size, 0, none⟩ = some (.int .i64 ((N : Int) + (m : Int)))) (first | (with_reducible exact b0.out) | (with_reducible exact e0.out) | (with_reducible exact a0.out) | (with_reducible exact a2.out) | (exact a0.out) | (with_reducible exact HF0.out) | (with_reducible exact HF1.out) | (exact HF1.out)) (first
              | (refine step_ldC 66 ld66 ld66_eq rfl rfl _ w1.heap.size 1 (.slice ao lo co) rfl (by first | exact e1 | exact g1 | exact g2) ?_)
              | (go_simp; go_at_call 29; refine (HNN.out _).mono ?_; rintro e w' ⟨rfl, rfl⟩)
              | (go_simp; go_at_call 28; refine HWI.out.mono ?_; rintro e w3 ⟨⟨o', rfl, hr3⟩, hb3⟩; obtain ⟨⟨f0, f1, ff, fl⟩, hev⟩ := HV.out.with HVA.out hr3 hb3; obtain ⟨ao3, lo3, co3, rfl⟩ := hr3.shape; have HF0 := Lib.hid f0; have HF1 := Lib.hid hev.c0; have HEV3 := Lib.hid hev; clear hr3 hb3 f0 hev))
            all_goals
              clear hld
              go_wp2_with fail
              go_meet
              exact ⟨rfl, _, HEV3.out⟩
          case rest =>
            obtain ⟨rfl, o1', hev⟩ := hcut
            clear HV
            have HV := Lib.hid hev
            have HXL2 : Hid ((gatesC N ps j ++ withL [n + 1, x]).length ≤ 1000000) := by have := HGL.out j; unfold Hid; simp only [List.length_append]; have := withL_len [n + 1, x]; omega
            obtain ⟨wp, rfl⟩ : ∃ wp : World, wp = wc := ⟨_, rfl⟩
            clear hev HXL
            have HXL := Lib.hid HXL2.out
            clear HXL2
            go_upto_region 16 with fail
            go_cut [51] (fun i W => i = .int .i64 (j : Int) ∧ ∃ o', EV w1 w1.heap.size ((N : Int) + (m : Int)) o' ((gatesC N ps j ++ withL [n + 1, x]) ++ withL [n + 1, y]) W)
            case first =>
              obtain ⟨ao, lo, co, rfl⟩ := HV.out.row.shape
              have hV0 : Below wp.heap.size wp wp.drew := (Below.refl _ _).drew
              have hVA : Below wp.heap.size wp (wp.drew.alloc (.cells ([n + 1, y].map (Value.int .i64)).toArray 3)) := hV0.alloc (Nat.le_refl _) _
              have HROW := Lib.hid (row_lit13 wp.drew [n + 1, y] (by simp))
              have HWI := Lib.hid (with_any _ (.slice (some ⟨wp.heap.size, 0, none⟩) 2 2) (w1.heap.size + 1) _ [n + 1, y] (wp.drew.alloc (.cells ([n + 1, y].map (Value.int .i64)).toArray 3)) (HV.out.row.keep hVA) (by have := HV.out.lt; simp; omega) HROW.out (by simp) (by intro z hz; simp at hz; omega) HXL.out)
              have e0 := Lib.hid (HV.out.keep hV0).c0
              have e1 := (HV.out.keep hV0).c1
              have a0 := Lib.hid (HV.out.keep hVA).c0
              have g1 := (HV.out.keep hVA).c1
              have g2 : ((wp.alloc (.cells #[.int .i64 (n + 1), .int .i64 (y)] 3)).drew).cell? ⟨w1.heap.size, 1, none⟩ = some (.slice ao lo co) := g1
              have a2 : Hid (((wp.alloc (.cells #[.int .i64 (n + 1), .int .i64 (y)] 3)).drew).cell? ⟨w1.heap.size, 0, none⟩ = some (.int .i64 ((N : Int) + (m : Int)))) := a0
              have b0 := Lib.hid HV.out.c0
              have HVA := Lib.hid hVA
              clear hVA hV0
              rw [← ld74_eq]
              have hld := ld74_eq
              go_region_held3 (fun W => W.cell? ⟨w1.heap.size, 0, none⟩ = some (.int .i64 ((N : Int) + (m : Int)))) (first | (with_reducible exact b0.out) | (with_reducible exact e0.out) | (with_reducible exact a0.out) | (with_reducible exact a2.out) | (exact a0.out) | (with_reducible exact HF0.out) | (with_reducible exact HF1.out) | (exact HF1.out)) (first
                | (refine step_ldC 74 ld74 ld74_eq rfl rfl _ w1.heap.size 1 (.slice ao lo co) rfl (by first | exact e1 | exact g1 | exact g2) ?_)
                | (go_simp; go_at_call 29; refine (HNN.out _).mono ?_; rintro e w' ⟨rfl, rfl⟩)
                | (go_simp; go_at_call 28; refine HWI.out.mono ?_; rintro e w3 ⟨⟨o', rfl, hr3⟩, hb3⟩; obtain ⟨⟨f0, f1, ff, fl⟩, hev⟩ := HV.out.with HVA.out hr3 hb3; obtain ⟨ao3, lo3, co3, rfl⟩ := hr3.shape; have HF0 := Lib.hid f0; have HF1 := Lib.hid hev.c0; have HEV3 := Lib.hid hev; clear hr3 hb3 f0 hev))
              all_goals
                clear hld
                go_wp2_with fail
                go_meet
                exact ⟨rfl, _, HEV3.out⟩
            case rest =>
              obtain ⟨rfl, o2', hev⟩ := hcut
              clear HV
              have HV := Lib.hid hev
              have HXL2 : Hid (((gatesC N ps j ++ withL [n + 1, x]) ++ withL [n + 1, y]).length ≤ 1000000) := by have := HGL.out j; unfold Hid; simp only [List.length_append]; have := withL_len [n + 1, x]; have := withL_len [n + 1, y]; omega
              obtain ⟨wp, rfl⟩ : ∃ wp : World, wp = wc := ⟨_, rfl⟩
              clear hev HXL
              have HXL := Lib.hid HXL2.out
              clear HXL2
              go_upto_region 17 with fail
              obtain ⟨ao, lo, co, rfl⟩ := HV.out.row.shape
              have hV0 : Below wp.heap.size wp wp.drew := (Below.refl _ _).drew
              have hVA : Below wp.heap.size wp (wp.drew.alloc (.cells ([n, notI x, notI y].map (Value.int .i64)).toArray 3)) := hV0.alloc (Nat.le_refl _) _
              have HROW := Lib.hid (row_lit13 wp.drew [n, notI x, notI y] (by simp))
              have HWI := Lib.hid (with_any _ (.slice (some ⟨wp.heap.size, 0, none⟩) 3 3) (w1.heap.size + 1) _ [n, notI x, notI y] (wp.drew.alloc (.cells ([n, notI x, notI y].map (Value.int .i64)).toArray 3)) (HV.out.row.keep hVA) (by have := HV.out.lt; simp; omega) HROW.out (by simp) (by intro z hz; simp at hz; omega) HXL.out)
              have e0 := Lib.hid (HV.out.keep hV0).c0
              have e1 := (HV.out.keep hV0).c1
              have a0 := Lib.hid (HV.out.keep hVA).c0
              have g1 := (HV.out.keep hVA).c1
              have g2 : ((wp.alloc (.cells #[.int .i64 (n), .int .i64 (notI x), .int .i64 (notI y)] 3)).drew).cell? ⟨w1.heap.size, 1, none⟩ = some (.slice ao lo co) := g1
              have a2 : Hid (((wp.alloc (.cells #[.int .i64 (n), .int .i64 (notI x), .int .i64 (notI y)] 3)).drew).cell? ⟨w1.heap.size, 0, none⟩ = some (.int .i64 ((N : Int) + (m : Int)))) := a0
              have b0 := Lib.hid HV.out.c0
              have HVA := Lib.hid hVA
              clear hVA hV0
              rw [← ld82_eq]
              have hld := ld82_eq
              go_region_held3 (fun W => W.cell? ⟨w1.heap.size, 0, none⟩ = some (.int .i64 ((N : Int) + (m : Int)))) (first | (with_reducible exact b0.out) | (with_reducible exact e0.out) | (with_reducible exact a0.out) | (with_reducible exact a2.out) | (exact a0.out) | (with_reducible exact HF0.out) | (with_reducible exact HF1.out) | (exact HF1.out)) (first
                | (refine step_ldC 82 ld82 ld82_eq rfl rfl _ w1.heap.size 1 (.slice ao lo co) rfl (by first | exact e1 | exact g1 | exact g2) ?_)
                | (go_simp; go_at_call_of 29 (Value.int IntKind.i64 x); refine (HNX.out _).mono ?_; rintro e w' ⟨rfl, rfl⟩)
                | (go_simp; go_at_call 29; refine (HNY.out _).mono ?_; rintro e w' ⟨rfl, rfl⟩)
                | (go_simp; go_at_call 28; refine HWI.out.mono ?_; rintro e w3 ⟨⟨o', rfl, hr3⟩, hb3⟩; obtain ⟨⟨f0, f1, ff, fl⟩, hev⟩ := HV.out.with HVA.out hr3 hb3; obtain ⟨ao3, lo3, co3, rfl⟩ := hr3.shape; have HF0 := Lib.hid f0; have HF1 := Lib.hid hev.c0; have HEV3 := Lib.hid hev; clear hr3 hb3 f0 hev))
              all_goals
                clear hld
                go_wp2_with fail
                go_roundg (m - (j + 1))
                case measure => omega
                case rel => exact ⟨j + 1, _, by omega, rfl, by go_num, by rw [HGJ.out]; unfold gateC; rw [← List.append_assoc, ← List.append_assoc]; exact HEV3.out⟩
        · have hjm : j = m := by omega
          subst hjm
          clear hlt hj HBW HEW HOKP HGN
          have HV3 : Hid (EV w1 w1.heap.size ((N : Int) + (j : Int)) o (gatesC N ps j ++ forceC (fs.take 0)) wr) := by rw [List.take_zero, show forceC [] = [] from rfl, List.append_nil]; exact HV.out
          have HX3 : Hid (∀ t, (gatesC N ps j ++ forceC (fs.take t)).length ≤ 3 * j + 1000) := fun t => by
            have h1 := HGL.out j
            have h2 := HFL.out t
            rw [List.length_take, HR.out] at h2
            rw [List.length_append]
            omega
          clear HGL HFL HV
          obtain ⟨wv, rfl⟩ : ∃ wv : World, wv = wr := ⟨_, rfl⟩
          have HSZ : Hid (w1.heap.size ≤ w1.heap.size) := Nat.le_refl _
          go_wp2_with fail
          go_loopw [95, 16] (fun i _ wr3 => ∃ (t : Nat) (o : Value), t ≤ k ∧ i = .int .i64 (t : Int) ∧ EV w1 w1.heap.size ((N : Int) + (j : Int)) o (gatesC N ps j ++ forceC (fs.take t)) wr3) (fun i _ _ => k - (intOf i).toNat)
          case atStart => exact ⟨0, _, Nat.zero_le _, rfl, HV3.out⟩
          case round =>
            obtain ⟨t, o3, ht, rfl, hev⟩ := hrel
            clear HV3
            rename World => wq
            obtain ⟨ao, lo, co, rfl⟩ := hev.row.shape
            have HV := Lib.hid hev
            have HEW := Lib.hid (HE1.out.below (hev.bel.mono HQ1.out))
            have HBW := Lib.hid (HB1.out.trans (hev.bel.mono (by have := HQ1.out; omega)))
            obtain ⟨e0, e1, ef, el, _, _⟩ := hev
            by_cases hlt3 : t < k
            · obtain ⟨b, off, ha, hbl, hcl⟩ := HF.out.resolve_left (by omega)
              subst ha
              have y0 := (HBW.out.cell (p := ⟨b, off + t, none⟩) hbl).trans (hcl t hlt3)
              have hi2 := HFN.out t hlt3
              have HT := Lib.hid (HFT.out t hlt3)
              have hxl := HX3.out t
              clear hcl
              generalize fs.getD t 0 = y at *
              have hVA : Below wq.heap.size wq (wq.alloc (.cells ([y].map (Value.int .i64)).toArray 3)) := (Below.refl _ _).alloc (Nat.le_refl _) _
              have HROW := Lib.hid (row_lit13 wq [y] (by simp))
              have HWI := Lib.hid (with_any _ (.slice (some ⟨wq.heap.size, 0, none⟩) 1 1) (w1.heap.size + 1) _ [y] (wq.alloc (.cells ([y].map (Value.int .i64)).toArray 3)) (HV.out.row.keep hVA) (by have := HV.out.lt; simp; omega) HROW.out (by simp) (by intro z hz; simp at hz; omega) (by omega))
              have HVA := Lib.hid hVA
              clear hVA hi2 hxl
              go_wp2_with (go_at_call 28; refine HWI.out.mono ?_; rintro e w3 ⟨⟨o', rfl, hr3⟩, hb3⟩; obtain ⟨⟨f0, f1, ff, fl⟩, hev⟩ := HV.out.with HVA.out hr3 hb3; obtain ⟨ao3, lo3, co3, rfl⟩ := hr3.shape; have HEV3 := Lib.hid hev; clear hr3 hb3 f0 hev)
              go_roundw
              case rel => exact ⟨t + 1, _, by omega, by go_num, by rw [HT.out, ← List.append_assoc]; exact HEV3.out⟩
              case measure => simp [intOf]; omega
            · have htk : t = k := by omega
              subst htk
              have HFIN : Hid (gatesC N ps j ++ forceC (fs.take t) = fin) := by unfold Hid; rw [HTE.out, HEN.out]
              rw [HFIN.out] at HV
              obtain ⟨_, _, _, r0, r1, rf, rs⟩ := HEW.out
              clear HFN HFT HX3 HFIN
              go_wp2_with fail
              exact bodyPost_ret (v := .tuple #[.agg #[.int .i64 ((N : Int) + (j : Int)), .slice ao lo co], .nilIface]) (by simp [results, Tryd.results8, go_sem, r0, r1]) rfl ⟨⟨_, rfl, ((HV.out.row.set (w.heap.size + 1) 0 _ (by have := HQ1.out; omega)).set (w.heap.size + 1) 1 _ (by have := HQ1.out; omega)).mono (by have := HQ1.out; omega)⟩, (HBW.out.setCell (by simp) _).setCell (by simp) _⟩
end Go.Proofs.YtmgepagdkfghlaaDoor
