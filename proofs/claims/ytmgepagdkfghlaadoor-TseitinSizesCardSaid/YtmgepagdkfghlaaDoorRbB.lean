/- The contract of the document's Build of a right circuit: the graph and the outputs that 'buildB', 'outsB' say. Conditions: as GbB's. -/
import Derived.Test.YtmgepagdkfghlaaDoorGbB
namespace Go.Proofs.YtmgepagdkfghlaaDoor
open Go.RowKit

set_option maxRecDepth 8000 in
set_option maxHeartbeats 4000000 in
theorem rbuild_ok (N : Nat) (u v : Value) (ps : List (Int × Int)) (os : List Int) (w : World) (hu : PRow w u ps) (hv : Row w v os) (hol : os.length ≤ 1000000) (hc : checkC (N : Int) ps os = 0) :
    Calls Tryd.prog 24 #[circV (N : Int) u v] w (BuildPost (fun v W S g => RgM W v S g) w (buildB N ps).1 (outsB N ps os) (fun v o => .tuple #[v, o])) := by
  obtain ⟨hnm, hokp, hoko⟩ := check_zero8 hc
  have HNEW := Lib.hid (fun W => rnew_any (N : Int) W (by omega) (by omega))
  rw [newG_at N (by omega)] at HNEW
  obtain ⟨a1, c1, rfl, hu1, hu2, hu3⟩ := hu
  obtain ⟨a2, c2, rfl, hv1, hv2, hv3⟩ := hv
  unfold maxLen at hu2 hv2
  have HU := Lib.hid hu3; clear hu3
  have HV := Lib.hid hv3; clear hv3
  have HBX := Lib.hid (fun W hW => cirC_box w W (N : Int) (.slice a1 ps.length c1) (.slice a2 os.length c2) hW)
  unfold CirC at HBX
  have H0 : Hid (Below (w.heap.size + 1) (w.alloc (.cells #[.int .i64 (N : Int), .slice a1 ps.length c1, .slice a2 os.length c2] 25)) (w.alloc (.cells #[.int .i64 (N : Int), .slice a1 ps.length c1, .slice a2 os.length c2] 25))) := Below.refl _ _
  clear hc
  unfold circV at *
  generalize hmm : ps.length = m at *
  generalize hll : os.length = l at *
  have HM := Lib.hid hmm; clear hmm
  have HLL := Lib.hid hll; clear hll
  have HOKP := Lib.hid hokp; clear hokp
  have HOKO := Lib.hid hoko; clear hoko
  go_enter Tryd.func24, Tryd.ntmps24
  go_wp2_with fail
  refine (HNEW.out _).mono ?_
  rintro e w2 ⟨⟨gv, S0, rfl, hG0, hS0⟩, hb2⟩
  obtain ⟨gp, rfl⟩ : ∃ p, gv = .pointer (some ⟨p, 0, none⟩) := by obtain ⟨p, u, h⟩ := hG0; exact ⟨p, h.val⟩
  have hsz1 : w.heap.size + 1 ≤ (w.alloc (.cells #[.int .i64 (N : Int), .slice a1 m c1, .slice a2 l c2] 25)).heap.size := by simp
  have HB2 := Lib.hid (H0.out.trans (hb2.mono hsz1))
  have hsz2 : w.heap.size + 1 ≤ w2.heap.size := Nat.le_trans hsz1 hb2.size
  have HST := Lib.hid (BSt.start (rgKind (.pointer (some ⟨gp, 0, none⟩))) (B := w.heap.size + 1) (w0 := (w.alloc (.cells #[.int .i64 (N : Int), .slice a1 m c1, .slice a2 l c2] 25))) hG0 (fun i hi => Nat.le_trans hsz1 (hS0 i hi)) HB2.out hsz2 0)
  clear hb2 hG0 hS0
  go_wp2_with fail
  go_loopw [6, 5] (fun i b wr => ∃ k : Nat, k ≤ N ∧ i = .int .i64 k ∧ BSt (fun W S g => RgM W (.pointer (some ⟨gp, 0, none⟩)) S g) (w.heap.size + 1) (w.alloc (.cells #[.int .i64 (N : Int), .slice a1 m c1, .slice a2 l c2] 25)) b ⟨N, [], 0⟩ (litsB k) wr) (fun i _ _ => N - (intOf i).toNat)
  case atStart => exact ⟨0, Nat.zero_le _, rfl, HST.out⟩
  case round =>
    obtain ⟨k, hk, rfl, hB⟩ := hrel
    clear hsz1 hsz2 HST
    obtain ⟨⟨z0, z1, z2⟩, hbw4⟩ := HBX.out _ hB.bel
    obtain ⟨ab, cb, rfl, _, hcb⟩ := own_shape hB.row
    unfold maxLen at hcb
    by_cases hlt : k < N
    · have HIN := Lib.hid (hB.call fun S hG => rin_any wr hG (k : Int) (by omega) (by omega))
      rw [inG_at N k hlt] at HIN
      clear hB hbw4
      go_wp2_with fail
      refine HIN.out.mono ?_
      rintro e w4 ⟨rfl, hB4⟩
      have hown := hB4.row
      have hsz := hB4.sz
      have HB4 := Lib.hid hB4
      clear hB4
      have hbl : (litsB k).length < 1099511627776 := by rw [litsB_len]; omega
      go_wp2_with (at_builtin; refine wpList_app1 rfl _ _ rfl w4 (w.heap.size + 1) _ _ _ (2 * ((k : Int) + 1)) hown hsz hbl rfl rfl ?_; intro u' w5 hown5 hap5)
      go_roundw
      case rel => exact ⟨k + 1, by omega, by go_num, by rw [← litsB_snoc]; exact HB4.out.app (rgKind (.pointer (some ⟨gp, 0, none⟩))) hown5 hap5⟩
      case measure => simp [intOf]; omega
    · have hkn : N = k := by omega
      subst hkn
      clear hk
      have HB := Lib.hid hB
      clear hB hbw4
      go_wp2_with fail
      go_loopw [7, 5] (fun i b wr => ∃ j : Nat, j ≤ m ∧ i = .int .i64 j ∧ BSt (fun W S g => RgM W (.pointer (some ⟨gp, 0, none⟩)) S g) (w.heap.size + 1) (w.alloc (.cells #[.int .i64 (N : Int), .slice a1 m c1, .slice a2 l c2] 25)) b (buildB N (ps.take j)).1 (buildB N (ps.take j)).2 wr) (fun i _ _ => m - (intOf i).toNat)
      case atStart => exact ⟨0, Nat.zero_le _, rfl, by rw [List.take_zero]; exact HB.out⟩
      case round =>
        obtain ⟨j, hj, rfl, hB⟩ := hrel
        clear z0 z1 z2 HB
        obtain ⟨⟨z0, z1, z2⟩, hbw⟩ := HBX.out _ hB.bel
        obtain ⟨ab, cb, rfl, _, hcb⟩ := own_shape hB.row
        unfold maxLen at hcb
        by_cases hlt2 : j < m
        · obtain ⟨q, off, ha, hql, hcl⟩ := HU.out.resolve_left (by omega)
          subst ha
          obtain ⟨x0, x1⟩ := hcl j hlt2
          have HI := Lib.hid (InvB.at N ps (by rw [HM.out]; omega) j (by rw [HM.out]; omega))
          obtain ⟨o1, o2, o3⟩ := (okP_iff _ _ _).1 (HOKP.out j hlt2)
          have HTK := Lib.hid (buildB_take N ps j (by rw [HM.out]; exact hlt2))
          clear hcl hbw z0 z1 z2
          generalize ps.getD j (0, 0) = xy at *
          obtain ⟨x, y⟩ := xy
          simp only at o1 o2 o3 x0 x1
          generalize buildB N (ps.take j) = s at *
          obtain ⟨g, bs⟩ := s
          simp only at hB hcb
          have HLO : Hid (LitsOk bs) := litsOk_of (by have := HI.out.len; omega) HI.out.lit
          have hlen : bs.length = N + 1 + j := HI.out.by_
          have HLA := Lib.hid (renL_isB HI.out.lit x)
          have HLB := Lib.hid (renL_isB HI.out.lit y)
          have hgl := HI.out.len
          have i1 := (isB_iff _ _).1 HLA.out
          have i2 := (isB_iff _ _).1 HLB.out
          simp only at i1 i2 hgl
          have hws := hB.sz
          have HCS : Hid (∀ W, Below (w.heap.size + 1) (w.alloc (.cells #[.int .i64 (N : Int), .slice (some ⟨q, off, none⟩) m c1, .slice a2 l c2] 25)) W → W.cell? ⟨w.heap.size, 1, none⟩ = some (.slice (some ⟨q, off, none⟩) m c1) ∧ W.cell? ⟨q, off + j * 2, none⟩ = some (.int .i64 x) ∧ W.cell? ⟨q, off + j * 2 + 1, none⟩ = some (.int .i64 y)) := fun W h => by
            obtain ⟨⟨_, h1, _⟩, hbx⟩ := HBX.out W h
            exact ⟨h1, (hbx.cell (p := ⟨q, off + j * 2, none⟩) hql).trans x0, (hbx.cell (p := ⟨q, off + j * 2 + 1, none⟩) hql).trans x1⟩
          have HRX0 := Lib.hid (as_any x _ bs wr.drew (own_row (own_keep hB.row (Below.refl _ _).drew)) HLO.out (by omega) (by omega) (by omega))
          have HRY0 := Lib.hid (as_any y _ bs wr.drew (own_row (own_keep hB.row (Below.refl _ _).drew)) HLO.out (by omega) (by omega) (by omega))
          have HAN0 := Lib.hid ((hB.keep (rgKind (.pointer (some ⟨gp, 0, none⟩))) (Below.refl _ _).drew).call fun S hG => rand_any wr.drew hG (renL bs x) (renL bs y) ⟨by omega, by omega⟩ ⟨by omega, by omega⟩)
          have HST2 : Hid (stepB (g, bs) (x, y) = ((andG g (renL bs x) (renL bs y)).1, bs ++ [(andG g (renL bs x) (renL bs y)).2])) := rfl
          have HS0 := Lib.hid (HCS.out _ hB.bel)
          have HS1 := Lib.hid (HCS.out _ (hB.keep (rgKind (.pointer (some ⟨gp, 0, none⟩))) (Below.refl _ _).drew).bel)
          clear hB HI HLA HLB x0 x1
          generalize renL bs x = rx at *
          generalize renL bs y = ry at *
          generalize andG g rx ry = r at *
          obtain ⟨g2, z⟩ := r
          simp only at HAN0 HST2
          have hbl : bs.length + 1 < 1099511627776 := by omega
          have HR5 : Hid (∀ w5, BSt (fun W S g => RgM W (.pointer (some ⟨gp, 0, none⟩)) S g) (w.heap.size + 1) (w.alloc (.cells #[.int .i64 (N : Int), .slice (some ⟨q, off, none⟩) m c1, .slice a2 l c2] 25)) (.slice ab bs.length cb) g2 bs w5 → BSt (fun W S g => RgM W (.pointer (some ⟨gp, 0, none⟩)) S g) (w.heap.size + 1) (w.alloc (.cells #[.int .i64 (N : Int), .slice (some ⟨q, off, none⟩) m c1, .slice a2 l c2] 25)) (.slice ab bs.length cb) g2 bs (w5.alloc (.cells #[.int .i64 z] 3)) ∧
              ∀ u6 w6, w6.ownsRow (w.heap.size + 1) 3 1 u6 (bs.length + 1) (bs.map (Value.int .i64) ++ [.int .i64 z]) → App (w.heap.size + 1) (w5.alloc (.cells #[.int .i64 z] 3)) w6 (.slice ab bs.length cb) u6 → BSt (fun W S g => RgM W (.pointer (some ⟨gp, 0, none⟩)) S g) (w.heap.size + 1) (w.alloc (.cells #[.int .i64 (N : Int), .slice (some ⟨q, off, none⟩) m c1, .slice a2 l c2] 25)) u6 g2 (bs ++ [z]) w6) := fun w5 h5 => by
            have hA := h5.keep (rgKind (.pointer (some ⟨gp, 0, none⟩))) ((Below.refl _ w5).alloc (Nat.le_refl _) (.cells #[.int .i64 z] 3))
            exact ⟨hA, fun u6 w6 hown hap => hA.app (rgKind (.pointer (some ⟨gp, 0, none⟩))) (by rw [List.map_append]; exact hown) hap⟩
          obtain ⟨z1, y0, y1⟩ := HS0.out
          clear HLO hlen HOKP HOKO
          go_wp2_with fail
          clear z1 y0 y1
          go_region_held3 (fun W => W.cell? ⟨w.heap.size, 1, none⟩ = some (.slice (some ⟨q, off, none⟩) m c1) ∧ W.cell? ⟨q, off + j * 2, none⟩ = some (.int .i64 x) ∧ W.cell? ⟨q, off + j * 2 + 1, none⟩ = some (.int .i64 y)) (first | (with_reducible exact HS0.out) | (with_reducible exact HS1.out) | (with_reducible exact HP5.out) | (with_reducible exact HP5A.out) | (with_reducible exact HP6.out)) (first
            | (go_at_call_of 42 (Value.int IntKind.i64 x); refine HRX0.out.mono ?_; rintro e w' ⟨rfl, rfl⟩)
            | (go_at_call_of 42 (Value.int IntKind.i64 y); refine HRY0.out.mono ?_; rintro e w' ⟨rfl, rfl⟩)
            | (go_at_call 42; refine HRX0.out.mono ?_; rintro e w' ⟨rfl, rfl⟩)
            | (go_at_call 42; refine HRY0.out.mono ?_; rintro e w' ⟨rfl, rfl⟩)
            | (go_at_call 41; refine HAN0.out.mono ?_; rintro e w5 ⟨rfl, hB5⟩; have H5 := Lib.hid (HR5.out w5 hB5); have HP5 := Lib.hid (HCS.out w5 hB5.bel); have HP5A := Lib.hid (HCS.out _ H5.out.1.bel); clear hB5)
            | (refine step_appC 23 3 _ 1 8 Tryd.underlying23 infoInt rfl (by decide) (by decide) rfl _ _ rfl _ (w.heap.size + 1) (.slice ab bs.length cb) bs.length (bs.map (Value.int .i64)) (some ⟨w5.heap.size, 0, none⟩) 1 1 [.int .i64 z] H5.out.1.row H5.out.1.sz (by omega) rfl (.inr ⟨_, rfl, lit_cells w5 z⟩) (lit_one z) rfl rfl ?_; intro u6 w6 hown6 hap6; have HF6 := Lib.hid (H5.out.2 u6 w6 hown6 hap6); have HP6 := Lib.hid (HCS.out w6 HF6.out.bel); clear hown6 hap6))
          all_goals
            go_wp2_with fail
            go_roundw
          all_goals first
            | exact ⟨j + 1, by omega, by go_num, by rw [HTK.out, HST2.out]; exact HF6.out⟩
            | (simp [intOf]; omega)
        · rename World => wq
          have hjm : m = j := by omega
          subst hjm
          have HTKM : ps.take m = ps := by rw [← HM.out]; exact List.take_length
          rw [HTKM] at hB
          have HI := Lib.hid (InvB.all N ps (by rw [HM.out]; omega))
          rw [HM.out] at HI
          have HOUTS : Hid (outsB N ps os = os.map (renL (buildB N ps).2)) := rfl
          rw [HTKM]
          generalize hout8 : outsB N ps os = outs at *
          have HO8 := Lib.hid hout8; clear hout8
          clear HTKM hbw
          generalize hs8 : buildB N ps = s at *
          have HS8 := Lib.hid hs8; clear hs8
          obtain ⟨g, bs⟩ := s
          simp only at hB HOUTS
          have HLO : Hid (LitsOk bs) := litsOk_of (by have := HI.out.len; omega) HI.out.lit
          have HLEN : Hid (bs.length = N + 1 + m) := HI.out.by_
          have HBB := Lib.hid hB
          have hws := hB.sz
          have HRN : Hid (∀ o W, Below wq.heap.size wq W → 0 ≤ o → o < 4611686018427387904 → o / 2 < ((N + 1 + m : Nat) : Int) → Calls Tryd.prog 42 #[.slice ab bs.length cb, .int .i64 o] W fun e w' => e = .returned (.int .i64 (renL bs o)) ∧ W = w') := fun o W hW h1 h2 h3 => as_any o _ bs W (own_row (own_keep HBB.out.row hW)) HLO.out h1 h2 (by rw [HLEN.out]; exact h3)
          clear hB HI
          go_wp2_with fail
          go_loopw [9, 8] (fun i o wr2 => ∃ t : Nat, t ≤ l ∧ i = .int .i64 t ∧ wr2.ownsRow wq.heap.size 3 1 o t (((os.take t).map (renL bs)).map (Value.int .i64)) ∧ Below wq.heap.size wq wr2) (fun i _ _ => l - (intOf i).toNat)
          case atStart => exact ⟨0, Nat.zero_le _, rfl, World.ownsRow_nil _ _ _ _, Below.refl _ _⟩
          case round =>
            obtain ⟨t, ht, rfl, hown, hbt⟩ := hrel
            clear z0 z1 z2
            obtain ⟨ao, co, rfl, _, hco⟩ := own_shape hown
            unfold maxLen at hco
            obtain ⟨⟨z0, z1, z2⟩, hbw⟩ := HBX.out _ (HBB.out.bel.trans (hbt.mono hws))
            by_cases hlt3 : t < l
            · obtain ⟨q, off, ha, hql, hcl⟩ := HV.out.resolve_left (by omega)
              subst ha
              have y0 := (hbw.cell (p := ⟨q, off + t, none⟩) hql).trans (hcl t hlt3)
              obtain ⟨o1, o2⟩ := (okO_iff _ _).1 (HOKO.out t hlt3)
              have HTK := Lib.hid (outs_snoc bs os t (by rw [HLL.out]; exact hlt3))
              clear hcl hbw
              generalize os.getD t 0 = o at *
              have HR := Lib.hid (HRN.out o wr hbt o1 (by omega) (by omega))
              clear o1 o2
              generalize renL bs o = ro at *
              have hsz2 := hbt.size
              have HBT := Lib.hid hbt
              clear hbt
              go_wp2_with fail
              refine HR.out.mono ?_
              rintro e w' ⟨rfl, rfl⟩
              go_wp2_with (at_builtin; refine wpList_app1 rfl _ _ rfl wr wq.heap.size _ _ _ ro hown hsz2 (by omega) rfl rfl ?_; intro u' w5 hown5 hap5)
              go_roundw
              case rel => exact ⟨t + 1, by omega, by go_num, by rw [HTK.out]; exact hown5, HBT.out.trans hap5.below⟩
              case measure => simp [intOf]; omega
            · have htl : l = t := by omega
              subst htl
              have HO : outs = (os.take l).map (renL bs) := by rw [HOUTS.out, ← HLL.out, List.take_length]
              rw [← HO] at hown
              have HFIN : Hid (BuildPost (fun v W S g => RgM W v S g) w g outs (fun v o => .tuple #[v, o]) (.returned (.tuple #[.pointer (some ⟨gp, 0, none⟩), .slice ao l co])) wr) := by
                obtain ⟨S, hS⟩ := HBB.out.keep (rgKind (.pointer (some ⟨gp, 0, none⟩))) hbt
                have hln : outs.length = l := by rw [HO, List.length_map, List.length_take]; rw [HLL.out]; omega
                exact ⟨⟨_, _, S, rfl, hS.gr, fun i hi => Nat.le_of_succ_le (hS.new i hi), by rw [hln]; exact own_base hown (by omega)⟩, (HBX.out _ hS.bel).2⟩
              clear HO hown hbt hbw
              go_wp2_with fail
              first
                | (go_ret; rw [HS8.out, HO8.out]; exact HFIN.out)
                | exact bodyPost_ret (v := .tuple #[.pointer (some ⟨gp, 0, none⟩), .slice ao l co]) (by simp [results, Tryd.results24, go_sem]) rfl (by rw [HS8.out, HO8.out]; exact HFIN.out)
end Go.Proofs.YtmgepagdkfghlaaDoor
