/- A circuit built anew is worth what it was ('build_worth'); skolemref.SameBools and skolemmake.Made at what reads alike: true. Conditions: those typed. -/
import Derived.Test.YtbighmmjmklioaaDoorEvl
import Derived.Test.YtbighmmjmklioaaDoorLawBd
namespace Go.Proofs.YtbighmmjmklioaaDoor
open Go.RowKit

theorem oddB_even {l : Int} (h : l % 2 = 0) : oddB l = false := decide_eq_false (by omega)
theorem oddB_odd {l : Int} (h : ¬ l % 2 = 0) : oddB l = true := decide_eq_true (by omega)
/-- Beside the nodes' worth the row of literals is worth the same. -/
structure BwI (N k : Nat) (ps : List (Int × Int)) (ins : List Bool) (s : Gr × List Int) : Prop where
  inv : InvB N k s
  ok : s.1.Ok
  val : ∀ j, s.1.val ins (s.2.getD j 0) = (nodesV N ps ins).getD j false
theorem BwI.ren {N k : Nat} {ps : List (Int × Int)} {ins : List Bool} {s : Gr × List Int} (h : BwI N k ps ins s) (l : Int) : s.1.val ins (renL s.2 l) = worthV (nodesV N ps ins) l := by
  unfold renL worthV
  by_cases hl : l % 2 = 0
  · rw [if_pos hl, h.val, oddB_even hl]; simp
  · rw [if_neg hl, val_not _ _ _ (h.inv.lit _), h.val, oddB_odd hl]; simp
theorem BwI.start (N : Nat) (ins : List Bool) : BwI N 0 [] ins (startB N) := by
  refine ⟨InvB.start N, fun k hk => absurd hk (Nat.not_lt_zero _), fun j => ?_⟩
  show worthV (nodesV N [] ins) ((litsB N).getD j 0) = _
  by_cases h : j ≤ N
  · rw [litsB_get N j h]
    unfold worthV
    rw [oddB_even (show (2 * (j : Int)) % 2 = 0 by omega), show (2 * (j : Int) / 2).toNat = j by omega]
    simp
  · have e : (litsB N).getD j 0 = 0 := by simp [List.getD, litsB_len, show N + 1 ≤ j by omega]
    have e2 : (nodesV N [] ins).getD j false = false := by
      have := nodesV_len N [] ins
      simp only [List.length_nil, Nat.add_zero] at this
      simp [List.getD, show (nodesV N [] ins).length ≤ j by omega]
    rw [e, e2]
    rfl
theorem BwI.step {N k : Nat} {ps : List (Int × Int)} {ins : List Bool} {s : Gr × List Int} (h : BwI N k ps ins s) (x : Int × Int) (hn : N + k < 8000) (hk : ps.length = k) : BwI N (k + 1) (ps ++ [x]) ins (stepB s x) := by
  have hi := h.inv.step x hn
  have hl := h.inv.len
  have hb := h.inv.by_
  have m := andG_mk (g := s.1) ⟨h.ok, h.inv.bad⟩ (renL s.2 x.1) (renL s.2 x.2) (renL_isB h.inv.lit _) (renL_isB h.inv.lit _) (by omega)
  have hnl := nodesV_len N ps ins
  refine ⟨hi, m.ok, fun j => ?_⟩
  show (andG s.1 (renL s.2 x.1) (renL s.2 x.2)).1.val ins ((s.2 ++ [(andG s.1 (renL s.2 x.1) (renL s.2 x.2)).2]).getD j 0) = _
  rw [nodesV_snoc]
  by_cases hj : j < s.2.length
  · rw [show (s.2 ++ [(andG s.1 (renL s.2 x.1) (renL s.2 x.2)).2]).getD j 0 = s.2.getD j 0 by simp [List.getD, List.getElem?_append_left hj], m.ext.val ins _ (h.inv.lit j), h.val]
    simp [List.getD, List.getElem?_append_left (show j < (nodesV N ps ins).length by omega)]
  · by_cases hj2 : j = s.2.length
    · rw [show (s.2 ++ [(andG s.1 (renL s.2 x.1) (renL s.2 x.2)).2]).getD j 0 = (andG s.1 (renL s.2 x.1) (renL s.2 x.2)).2 by simp [List.getD, hj2], m.val, h.ren, h.ren]
      have : j = (nodesV N ps ins).length := by omega
      subst this
      simp [List.getD]
    · rw [show (s.2 ++ [(andG s.1 (renL s.2 x.1) (renL s.2 x.2)).2]).getD j 0 = 0 by simp [List.getD, show s.2.length + 1 ≤ j by omega], val_zero]
      simp [List.getD, show (nodesV N ps ins).length + 1 ≤ j by omega]
theorem BwI.at (N : Nat) (ps : List (Int × Int)) (ins : List Bool) (hn : N + ps.length ≤ 8000) : ∀ k, k ≤ ps.length → BwI N k (ps.take k) ins (buildB N (ps.take k))
  | 0, _ => by rw [List.take_zero]; exact BwI.start N ins
  | k + 1, h => by
    rw [buildB_take N ps k (by omega), take_snocP ps k (by omega)]
    exact (BwI.at N ps ins hn k (by omega)).step _ (by omega) (by rw [List.length_take]; omega)
theorem build_worth (N : Nat) (ps : List (Int × Int)) (os : List Int) (ins : List Bool) (hn : N + ps.length ≤ 8000) : evalV (buildB N ps).1.n (buildB N ps).1.ands (outsB N ps os) ins = evalV N ps os ins := by
  have h := BwI.at N ps ins hn ps.length (Nat.le_refl _)
  rw [List.take_length] at h
  unfold evalV outsB
  rw [List.map_map]
  exact List.map_congr_left fun l _ => h.ren l

set_option maxRecDepth 8000 in
set_option maxHeartbeats 2000000 in
theorem sameBools_yes (v u : Value) (xs : List Bool) (w : World) (hv : BRow w v xs) (hu : BRow w u xs) :
    Calls Tryd.prog 45 #[v, u] w fun e w' => e = .returned (.bool true) ∧ Below w.heap.size w w' := by
  obtain ⟨a, c, rfl, hxc, hcm, hx⟩ := hv
  obtain ⟨a', c', rfl, hyc, hcm', hy⟩ := hu
  unfold maxLen at hcm hcm'
  have HX := Lib.hid hx; clear hx
  have HY := Lib.hid hy; clear hy
  have hne : ((xs.length : Int) != (xs.length : Int)) = false := by simp
  generalize hn : xs.length = n at *
  have HN := Lib.hid hn; clear hn
  go_enter Tryd.func45, Tryd.ntmps45
  go_wp2_with fail
  go_loopw [5, 6] (fun i _ wr => ∃ k q : Nat, k ≤ n ∧ i = .int .i64 k ∧ wr = w.drewN q) (fun i _ _ => n - (intOf i).toNat)
  case atStart => exact ⟨0, 0, Nat.zero_le _, rfl, rfl⟩
  case round =>
    obtain ⟨k, q, hk, rfl, rfl⟩ := hrel
    by_cases hlt : k < n
    · obtain ⟨b, off, ha, hb, hx⟩ := HX.out.resolve_left (by omega)
      obtain ⟨b', off', ha', hb', hy⟩ := HY.out.resolve_left (by omega)
      subst ha; subst ha'
      have x0 := hx k hlt
      have y0 := hy k hlt
      clear hx hy
      generalize xs.getD k false = p0 at *
      go_wp2_with fail
      try go_quiet (fail)
      go_wp2_with fail
      go_roundw
      case rel => exact ⟨k + 1, _, by omega, by go_num, rfl⟩
      case measure => simp [intOf]; omega
    · have hkn : k = n := by omega
      subst hkn
      go_wp2_with fail
      go_ret
      exact ⟨rfl, below_drewN (Below.refl _ _) _⟩

set_option maxRecDepth 8000 in
set_option maxHeartbeats 4000000 in
theorem made_yes (g : Gr) (u v : Value) (outs : List Int) (w : World) (hu : PRow w u g.ands) (hv : Row w v outs) (hc : checkC (g.n : Int) g.ands outs = 0) (h2 : (buildB g.n g.ands).1 = g) (h3 : outsB g.n g.ands outs = outs) (hl : g.len ≤ 8000) (hol : outs.length ≤ 1000000)
    (hpb : ∀ x ∈ g.ands, in64 x.1 ∧ in64 x.2) (hob : ∀ o ∈ outs, in64 o) :
    Calls Tryd.prog 46 #[circV (g.n : Int) u v] w fun e w' => e = .returned (.bool true) ∧ Below w.heap.size w w' := by
  have hgl : g.n + g.ands.length ≤ 8000 := hl
  have HRC := Lib.hid (fun W (hW : Below w.heap.size w W) => rcheck_any (g.n : Int) u v g.ands outs W (hu.keep hW) (hv.keep hW) ⟨by omega, by omega⟩ (by omega) hol hpb hob)
  rw [hc] at HRC
  have HRB := Lib.hid (fun W (hW : Below w.heap.size w W) => rbuild_ok g.n u v g.ands outs W (hu.keep hW) (hv.keep hW) hol hc)
  rw [h2, h3] at HRB
  have HSC := Lib.hid (fun W (hW : Below w.heap.size w W) u2 v2 h1 h2 => sameCir_yes (g.n : Int) u2 v2 _ _ g.ands outs W h1 h2 (hu.keep hW) (hv.keep hW))
  obtain ⟨a0, c0, rfl, _⟩ := hu
  obtain ⟨a1, c1, rfl, _⟩ := hv
  have HBX := Lib.hid (fun W hW => cirC_box w W (g.n : Int) (.slice a0 g.ands.length c0) (.slice a1 outs.length c1) hW)
  unfold CirC at HBX
  have HB0 : Hid ((w.alloc (.cells #[.int .i64 (g.n : Int), .slice a0 g.ands.length c0, .slice a1 outs.length c1] 43)).heap.size = w.heap.size + 1) := by unfold Hid; simp
  rw [← HB0.out] at HBX
  have HOL := Lib.hid hol
  clear hpb hob h2 h3 hc hol
  unfold circV at *
  generalize hm0 : g.ands.length = m0 at *
  generalize hm1 : outs.length = m1 at *
  have HM0 := Lib.hid hm0
  have HM1 := Lib.hid hm1
  clear hm0 hm1
  go_enter Tryd.func46, Tryd.ntmps46
  go_wp2_with fail
  generalize w.alloc (.cells #[.int .i64 (g.n : Int), .slice a0 m0 c0, .slice a1 m1 c1] 43) = w0 at *
  have HX := Lib.hid (fun W (hW : Below w0.heap.size w0 W) => (HBX.out W hW).1)
  have HW := Lib.hid (fun W (hW : Below w0.heap.size w0 W) => (HBX.out W hW).2)
  refine (HRC.out _ (HW.out _ (Below.refl _ _))).mono ?_
  rintro e w1 ⟨rfl, hb1⟩
  obtain ⟨k0, k1, k2⟩ := HX.out _ hb1
  have HR1 := Lib.hid (HRB.out _ (HW.out _ hb1))
  go_wp2_with fail
  refine HR1.out.mono ?_
  rintro e w2 ⟨⟨xv, pv, T, rfl, hR, hTn, hpv⟩, hb2⟩
  obtain ⟨xp, rfl⟩ : ∃ p, xv = .pointer (some ⟨p, 0, none⟩) := by obtain ⟨p, u, h⟩ := hR; exact ⟨p, h.val⟩
  have hV0 : Below w0.heap.size w0 w2.drew := bb_step (bb_step hb1 hb2) (Below.refl _ _).drew
  have HCR := Lib.hid (rcirc_any w2.drew (hR.below (Below.refl _ _).drew) pv outs ((own_row hpv).keep (Below.refl _ _).drew) (by rw [HM1.out]; exact HOL.out))
  obtain ⟨ap, cp, rfl, _, _⟩ := own_shape hpv
  rw [HM1.out] at HCR
  unfold CirPost circV at HCR
  clear hb1 hb2 hR hTn hpv k0 k1 k2
  rw [HM1.out]
  go_wp2_with fail
  go_region_held3 (fun W => W.cell? ⟨w.heap.size, 0, none⟩ = some (.int .i64 (g.n : Int)) ∧ W.cell? ⟨w.heap.size, 1, none⟩ = some (.slice a0 m0 c0) ∧ W.cell? ⟨w.heap.size, 2, none⟩ = some (.slice a1 m1 c1)) (first | exact HX.out _ hV0 | exact HX.out _ hVT | exact HX.out _ hVU) (first
    | (go_at_call 28; refine HCR.out.mono ?_; rintro e wT ⟨⟨u15, v15, rfl, hu15, hv15⟩, hbT⟩; have hVT := bb_step hV0 hbT; have HSCT := Lib.hid (HSC.out _ (HW.out _ hVT) _ _ (own_prow hu15) (own_row hv15)); obtain ⟨a15, c15, rfl, _, _⟩ := row_shape hu15; obtain ⟨b15, d15, rfl, _, _⟩ := row_shape hv15; clear hu15 hv15 hbT)
    | (go_at_call 26; refine HSCT.out.mono ?_; rintro e wU ⟨rfl, hbU⟩; have hVU := bb_step hVT hbU; clear hbU))
  all_goals
    go_wp2_with fail
    go_ret
    exact ⟨rfl, HW.out _ hVU⟩
end Go.Proofs.YtbighmmjmklioaaDoor
