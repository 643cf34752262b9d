/- The law LitsSay by its callees' contracts: whatever the input, it returns true and leaves what was there. Conditions: the package's errors lie as 'Sents' says; each clause is no longer than the reach allows. -/
import Derived.Test.YtcndkdlpicffpaaDoorRefNorm
import Derived.Test.YtcndkdlpicffpaaDoorRefCheck
import Derived.Test.YtcndkdlpicffpaaDoorCheck
import Derived.Test.YtcndkdlpicffpaaDoorFirst
import Derived.Test.YtcndkdlpicffpaaDoorOpenRows
import Derived.Deep.RegionHeld3
namespace Go.Proofs.YtcndkdlpicffpaaDoor
open Go.RowKit

theorem checkF_one {vars : Int} {xss : List (List Int)} {c c' : Int} {p p' : Bool} {k k' : Int} (h : CheckF vars xss c p k) (h' : CheckF vars xss c' p' k') : c' = c ∧ p' = p ∧ k' = k := by
  rcases h with ⟨t, rfl, rfl, rfl⟩ | ⟨nt, i, ⟨hi, hb, x, hx, hf⟩, rfl, rfl, rfl⟩ | ⟨nt, ha, rfl, rfl, rfl⟩
  · rcases h' with ⟨_, rfl, rfl, rfl⟩ | ⟨nt', _⟩ | ⟨nt', _⟩
    · exact ⟨rfl, rfl, rfl⟩
    · exact absurd t nt'
    · exact absurd t nt'
  · rcases h' with ⟨t', _⟩ | ⟨_, i', ⟨hi', hb', x', hx', hf'⟩, rfl, rfl, rfl⟩ | ⟨_, ha', _⟩
    · exact absurd t' nt
    · refine ⟨rfl, rfl, ?_⟩
      rcases Nat.lt_trichotomy i i' with h | h | h
      · have := hb' i h x hx; rw [hf] at this; cases this
      · rw [h]
      · have := hb i' h x' hx'; rw [hf'] at this; cases this
    · have := ha' (xss.getD i []) (by simp [List.getD, hi]) x hx
      rw [hf] at this; cases this
  · rcases h' with ⟨t', _⟩ | ⟨_, i', ⟨hi', hb', x', hx', hf'⟩, _⟩ | ⟨_, ha', rfl, rfl, rfl⟩
    · exact absurd t' nt
    · have := ha (xss.getD i' []) (by simp [List.getD, hi']) x' hx'
      rw [hf'] at this; cases this
    · exact ⟨rfl, rfl, rfl⟩
theorem len_sumTo (xss : List (List Int)) (xs : List Int) (h : xs ∈ xss) : xs.length ≤ sumTo xss xss.length := by
  obtain ⟨i, hi, rfl⟩ := List.getElem_of_mem h
  have h1 := sumTo_succ xss i hi
  have h2 := sumTo_mono xss (i + 1) xss.length (by omega)
  have h3 : xss.getD i [] = xss[i] := by simp [List.getD, hi]
  rw [h3] at h1
  omega
theorem rowOne {W : World} {b : Nat} {l : Int} (h : W.cell? ⟨b, 0, none⟩ = some (.int .i64 l)) : Row W (.slice (some ⟨b, 0, none⟩) 1 1) [l] :=
  ⟨_, _, rfl, by simp, by unfold maxLen; omega, .inr ⟨_, _, rfl, World.block_lt_of_cell? W _ h, fun i hi => by match i, hi with | 0, _ => exact h⟩⟩
theorem near_inW {xs : List Int} (h : xs.all nearB = true) (hb : ∀ y ∈ xs, -9223372036854775808 ≤ y ∧ y ≤ 9223372036854775807) : InW xs := fun x hx =>
  ⟨by have := (nearB_iff x).1 (List.all_eq_true.1 h x hx); omega, (hb x hx).2⟩

set_option maxHeartbeats 8000000 in
set_option maxRecDepth 100000 in
theorem lawSay (A : Nat → Addr) (l vars : Int) (aa : Option Addr) (ca : Nat) (xa : List Int) (ab : Option Addr) (cb : Nat) (xb : List Int) (cv : Int) (ac : Option Addr) (cc : Nat) (xss : List (List Int)) (ay : Option Addr) (cy : Nat) (xy : List Int) (w : World)
    (hS : Sents w A) (hl1 : -9223372036854775808 ≤ l) (hl2 : l ≤ 9223372036854775807) (hv1 : -9223372036854775808 ≤ vars) (hv2 : vars ≤ 9223372036854775807) (hw1 : -9223372036854775808 ≤ cv) (hw2 : cv ≤ 9223372036854775807)
    (ha : RowAt w aa ca xa) (hab : ∀ y ∈ xa, -9223372036854775808 ≤ y ∧ y ≤ 9223372036854775807) (hb : RowAt w ab cb xb) (hbb : ∀ y ∈ xb, -9223372036854775808 ≤ y ∧ y ≤ 9223372036854775807)
    (hc : RowsAt w ac cc xss) (hcb : ∀ xs ∈ xss, ∀ y ∈ xs, -9223372036854775808 ≤ y ∧ y ≤ 9223372036854775807) (hlen : ∀ xs ∈ xss, xs.length ≤ 140737488355328) (hy : RowAt w ay cy xy) (hyb : ∀ y ∈ xy, -9223372036854775808 ≤ y ∧ y ≤ 9223372036854775807) :
    Calls Tryd.prog 3 #[.int .i64 l, .int .i64 vars, .slice aa xa.length ca, .slice ab xb.length cb, .agg #[.int .i64 cv, .slice ac xss.length cc], .slice ay xy.length cy] w fun e w' => e = .returned (.bool true) ∧ Below w.heap.size w w' := by
  have HF := Lib.hid first_any
  have HS := Lib.hid hS; clear hS
  have HRA := Lib.hid (show Row w (.slice aa xa.length ca) xa from ⟨_, _, rfl, ha⟩)
  have HRB := Lib.hid (show Row w (.slice ab xb.length cb) xb from ⟨_, _, rfl, hb⟩)
  have HRY := Lib.hid (show Row w (.slice ay xy.length cy) xy from ⟨_, _, rfl, hy⟩)
  have HRC := Lib.hid hc
  have HAB := Lib.hid hab; clear hab
  have HBB := Lib.hid hbb; clear hbb
  have HYB := Lib.hid hyb; clear hyb
  have HCB := Lib.hid hcb; clear hcb
  have HLEN := Lib.hid hlen; clear hlen
  have hca := ha.2.1; have hcb' := hb.2.1; have hcy := hy.2.1; have hcc := hc.2.1
  have hna := ha.1; have hnb := hb.1; have hny := hy.1; have hnc := hc.1
  unfold maxLen at hca hcb' hcy hcc
  clear ha hb hc hy
  generalize hNA : xa.length = na at *
  have HNA := Lib.hid hNA; clear hNA
  generalize hNB : xb.length = nb at *
  have HNB := Lib.hid hNB; clear hNB
  generalize hNY : xy.length = ny at *
  have HNY := Lib.hid hNY; clear hNY
  generalize hNC : xss.length = nc at *
  have HNC := Lib.hid hNC; clear hNC
  go_enter Tryd.func3, Tryd.ntmps3
  go_wp2_with fail
  have hb0 : Below w.heap.size w (w.alloc (.cells #[.int .i64 cv, .slice ac nc cc] 25)) := (Below.refl _ w).alloc (Nat.le_refl _) _
  have hc0 : (w.alloc (.cells #[.int .i64 cv, .slice ac nc cc] 25)).cell? ⟨w.heap.size, 0, none⟩ = some (.int .i64 cv) := by rw [World.cell?_alloc_at _ _ _ _ rfl]; rfl
  have hc1 : (w.alloc (.cells #[.int .i64 cv, .slice ac nc cc] 25)).cell? ⟨w.heap.size, 1, none⟩ = some (.slice ac nc cc) := by rw [World.cell?_alloc_at _ _ _ _ rfl]; rfl
  have hlt0 : w.heap.size < (w.alloc (.cells #[.int .i64 cv, .slice ac nc cc] 25)).heap.size := by simp
  generalize w.alloc (.cells #[.int .i64 cv, .slice ac nc cc] 25) = W0 at *
  refine (HF.out _).mono ?_
  rintro e w1 ⟨rfl, hb1⟩
  have hbw : Below w.heap.size w w1 := hb0.trans (hb1.mono hb0.size)
  have hd0 : w1.cell? ⟨w.heap.size, 0, none⟩ = some (.int .i64 cv) := (hb1.cell (p := ⟨w.heap.size, 0, none⟩) hlt0).trans hc0
  have hd1 : w1.cell? ⟨w.heap.size, 1, none⟩ = some (.slice ac nc cc) := (hb1.cell (p := ⟨w.heap.size, 1, none⟩) hlt0).trans hc1
  have hlt1 : w.heap.size < w1.heap.size := Nat.lt_of_lt_of_le hlt0 hb1.size
  clear hc0 hc1 hlt0 hb0 hb1
  by_cases h1 : 60 < na
  · have e1 : decide (60 < (na : Int)) = true := by simp; omega
    go_wp2_with fail
    go_ret
    exact ⟨rfl, hbw⟩
  have e1 : decide (60 < (na : Int)) = false := by simp; omega
  by_cases h2 : 60 < nb
  · have e2 : decide (60 < (nb : Int)) = true := by simp; omega
    go_wp2_with fail
    go_ret
    exact ⟨rfl, hbw⟩
  have e2 : decide (60 < (nb : Int)) = false := by simp; omega
  by_cases h3 : 60 < ny
  · have e3 : decide (60 < (ny : Int)) = true := by simp; omega
    go_wp2_with fail
    go_ret
    exact ⟨rfl, hbw⟩
  have e3 : decide (60 < (ny : Int)) = false := by simp; omega
  by_cases h4 : 60 < nc
  · have e4 : decide (60 < (nc : Int)) = true := by simp; omega
    go_wp2_with fail
    go_ret
    exact ⟨rfl, hbw⟩
  have e4 : decide (60 < (nc : Int)) = false := by simp; omega
  have N1 := Lib.hid (near_any _ xa w1 (HRA.out.keep hbw))
  have N2 := Lib.hid (near_any _ xb w1 (HRB.out.keep hbw))
  have N3 := Lib.hid (near_any _ xy w1 (HRY.out.keep hbw))
  have N4 := Lib.hid (nearAll_any ac cc xss w1 (HRC.out.keep hbw))
  have N5 := Lib.hid (count_any ac cc xss w1 (HRC.out.keep hbw) (by rw [HNC.out]; omega) HLEN.out)
  have N6 := Lib.hid (fun (W : World) (b : Nat) (h : W.cell? ⟨b, 0, none⟩ = some (.int .i64 l)) => near_any _ [l] W (rowOne h))
  rw [HNC.out] at N4 N5
  go_wp2_with fail
  cases ha : xa.all nearB with
  | false =>
    rw [ha] at N1
    refine N1.out.mono ?_
    rintro e w' ⟨rfl, rfl⟩
    go_wp2_with fail
    go_ret
    exact ⟨rfl, hbw⟩
  | true =>
  rw [ha] at N1
  refine N1.out.mono ?_
  rintro e w' ⟨rfl, rfl⟩
  go_wp2_with fail
  cases hb : xb.all nearB with
  | false =>
    rw [hb] at N2
    refine N2.out.mono ?_
    rintro e w' ⟨rfl, rfl⟩
    go_wp2_with fail
    go_ret
    exact ⟨rfl, hbw⟩
  | true =>
  rw [hb] at N2
  refine N2.out.mono ?_
  rintro e w' ⟨rfl, rfl⟩
  go_wp2_with fail
  cases hy : xy.all nearB with
  | false =>
    rw [hy] at N3
    refine N3.out.mono ?_
    rintro e w' ⟨rfl, rfl⟩
    go_wp2_with fail
    go_ret
    exact ⟨rfl, hbw⟩
  | true =>
  rw [hy] at N3
  refine N3.out.mono ?_
  rintro e w' ⟨rfl, rfl⟩
  go_wp2_with fail
  cases hc : (xss.all fun xs => xs.all nearB) with
  | false =>
    rw [hc] at N4
    refine N4.out.mono ?_
    rintro e w' ⟨rfl, rfl⟩
    go_wp2_with fail
    go_ret
    exact ⟨rfl, hbw⟩
  | true =>
  rw [hc] at N4
  refine N4.out.mono ?_
  rintro e w' ⟨rfl, rfl⟩
  go_wp2_with fail
  have HSM := Lib.hid (len_sumTo xss)
  rw [HNC.out] at HSM
  generalize sumTo xss nc = sm at *
  refine N5.out.mono ?_
  rintro e w' ⟨rfl, rfl⟩
  by_cases hsm : 300 < sm
  · have e5 : decide (300 < (sm : Int)) = true := by simp; omega
    go_wp2_with fail
    go_ret
    exact ⟨rfl, hbw⟩
  have e5 : decide (300 < (sm : Int)) = false := by simp; omega
  go_wp2_with fail
  cases hl : [l].all nearB with
  | false =>
    rw [hl] at N6
    refine (N6.out _ _ (by rw [World.cell?_alloc_at _ _ _ _ rfl]; rfl)).mono ?_
    rintro e w' ⟨rfl, rfl⟩
    go_wp2_with fail
    go_ret
    exact ⟨rfl, hbw.alloc (Nat.le_of_lt hlt1) _⟩
  | true =>
  rw [hl] at N6
  refine (N6.out _ _ (by rw [World.cell?_alloc_at _ _ _ _ rfl]; rfl)).mono ?_
  rintro e w' ⟨rfl, rfl⟩
  have hbw2 : Below w.heap.size w (w1.alloc (.cells #[.int .i64 l] 3)) := hbw.alloc (Nat.le_of_lt hlt1) _
  have hd0' : (w1.alloc (.cells #[.int .i64 l] 3)).cell? ⟨w.heap.size, 0, none⟩ = some (.int .i64 cv) := by rw [World.cell?_alloc_past _ _ _ hlt1]; exact hd0
  have hd1' : (w1.alloc (.cells #[.int .i64 l] 3)).cell? ⟨w.heap.size, 1, none⟩ = some (.slice ac nc cc) := by rw [World.cell?_alloc_past _ _ _ hlt1]; exact hd1
  have hlt2 : w.heap.size < (w1.alloc (.cells #[.int .i64 l] 3)).heap.size := by simp; omega
  have hle2 : w.heap.size + 1 ≤ (w1.alloc (.cells #[.int .i64 l] 3)).heap.size := hlt2
  generalize w1.alloc (.cells #[.int .i64 l] 3) = w2 at *
  clear hd0 hd1 hlt1 N1 N2 N3 N4 N5 N6 hlt2
  have IA := Lib.hid (near_inW ha HAB.out)
  have IB := Lib.hid (near_inW hb HBB.out)
  have IY := Lib.hid (near_inW hy HYB.out)
  have IC := Lib.hid (show ∀ xs ∈ xss, ∀ y ∈ xs, -9223372036854775807 ≤ y ∧ y ≤ 9223372036854775807 from fun xs hxs => near_inW (by simpa using List.all_eq_true.1 hc xs hxs) (HCB.out xs hxs))
  have hll : -9223372036854775807 ≤ l := by have h : nearB l = true := (by simpa using hl); have := (nearB_iff l).1 h; omega
  clear ha hb hy hc hl
  obtain ⟨la, hla⟩ : ∃ la, normL xa = la := ⟨_, rfl⟩
  obtain ⟨sa, hsa⟩ : ∃ sa, normSays la = sa := ⟨_, rfl⟩
  have X1 := Lib.hid (norm_any _ xa w2 (HRA.out.keep hbw2) IA.out (by rw [HNA.out]; omega))
  have X2 := Lib.hid (fun W (hW : Below w.heap.size w W) => refNorm_any _ xa W (HRA.out.keep hW) IA.out (by rw [HNA.out]; omega))
  unfold NormPost at X1 X2
  rw [hla, hsa] at X1
  simp only [hla, hsa] at X2
  clear hla hsa
  have X3 := Lib.hid (fun W (hW : Below w.heap.size w W) => rename_any _ _ xb xy W (HRB.out.keep hW) (HRY.out.keep hW) IB.out IY.out (by rw [HNB.out]; omega) (by rw [HNY.out]; omega))
  have X4 := Lib.hid (fun W (hW : Below w.heap.size w W) => refRename_any _ _ xb xy W (HRB.out.keep hW) (HRY.out.keep hW) IB.out IY.out (by rw [HNB.out]; omega))
  unfold RenPost at X3 X4
  generalize xb.all (renOk xy) = rb at *
  generalize xb.map (ren1 xy) = lb at *
  go_wp2_with fail
  refine X1.out.mono ?_
  rintro e w3 ⟨vx, rfl, hb3, hox⟩
  have hbw3 := hbw2.trans (hb3.mono hbw2.size)
  have c30 : w3.cell? ⟨w.heap.size, 0, none⟩ = some (.int .i64 cv) := (hb3.cell (p := ⟨w.heap.size, 0, none⟩) hle2).trans hd0'
  have c31 : w3.cell? ⟨w.heap.size, 1, none⟩ = some (.slice ac nc cc) := (hb3.cell (p := ⟨w.heap.size, 1, none⟩) hle2).trans hd1'
  have hle3 : w.heap.size + 1 ≤ w3.heap.size := Nat.le_trans hle2 hb3.size
  go_wp2_with fail
  refine (X2.out _ hbw3).mono ?_
  rintro e w4 ⟨vy, rfl, hb4, hoy⟩
  have hbw4 := hbw3.trans (hb4.mono hbw3.size)
  have c40 : w4.cell? ⟨w.heap.size, 0, none⟩ = some (.int .i64 cv) := (hb4.cell (p := ⟨w.heap.size, 0, none⟩) hle3).trans c30
  have c41 : w4.cell? ⟨w.heap.size, 1, none⟩ = some (.slice ac nc cc) := (hb4.cell (p := ⟨w.heap.size, 1, none⟩) hle3).trans c31
  have hle4 : w.heap.size + 1 ≤ w4.heap.size := Nat.le_trans hle3 hb4.size
  have Rx4 : Row w4 vx la := (own_row hox).keep hb4
  have Ry4 : Row w4 vy la := own_row hoy
  clear hox hoy hb3 hb4 c30 c31 hle3 hbw3 hd0' hd1' hle2 hbw2 hbw
  go_wp2_with fail
  refine (X3.out _ hbw4).mono ?_
  rintro e w5 ⟨vp, rfl, hb5, hop, hnp⟩
  have hbw5 := hbw4.trans (hb5.mono hbw4.size)
  have c50 : w5.cell? ⟨w.heap.size, 0, none⟩ = some (.int .i64 cv) := (hb5.cell (p := ⟨w.heap.size, 0, none⟩) hle4).trans c40
  have c51 : w5.cell? ⟨w.heap.size, 1, none⟩ = some (.slice ac nc cc) := (hb5.cell (p := ⟨w.heap.size, 1, none⟩) hle4).trans c41
  have hle5 : w.heap.size + 1 ≤ w5.heap.size := Nat.le_trans hle4 hb5.size
  have Rp5 : Row w5 vp (if rb = true then lb else []) := by
    cases rb with
    | true => exact own_row (hop rfl)
    | false => rw [hnp rfl]; exact Row.nil _
  have Rx5 := Rx4.keep hb5
  have Ry5 := Ry4.keep hb5
  clear Rx4 Ry4 hop hnp hb5 c40 c41 hle4 hbw4
  go_wp2_with fail
  refine (X4.out _ hbw5).mono ?_
  rintro e w6 ⟨vq, rfl, hb6, hoq, hnq⟩
  have hbw6 := hbw5.trans (hb6.mono hbw5.size)
  have c60 : w6.cell? ⟨w.heap.size, 0, none⟩ = some (.int .i64 cv) := (hb6.cell (p := ⟨w.heap.size, 0, none⟩) hle5).trans c50
  have c61 : w6.cell? ⟨w.heap.size, 1, none⟩ = some (.slice ac nc cc) := (hb6.cell (p := ⟨w.heap.size, 1, none⟩) hle5).trans c51
  have hle6 : w.heap.size + 1 ≤ w6.heap.size := Nat.le_trans hle5 hb6.size
  have Rq6 : Row w6 vq (if rb = true then lb else []) := by
    cases rb with
    | true => exact own_row (hoq rfl)
    | false => rw [hnq rfl]; exact Row.nil _
  have Rp6 := Rp5.keep hb6
  have Rx6 := Rx5.keep hb6
  have Ry6 := Ry5.keep hb6
  clear Rp5 Rx5 Ry5 hoq hnq hb6 c50 c51 hle5 hbw5
  have S1 := Lib.hid (fun W (hW : Below w6.heap.size w6 W) => sameInts_yes _ _ la la W (Rx6.keep hW) (Ry6.keep hW) rfl)
  have S2 := Lib.hid (fun W (hW : Below w6.heap.size w6 W) => sameInts_yes _ _ _ _ W (Rp6.keep hW) (Rq6.keep hW) rfl)
  clear Rx6 Ry6 Rp6 Rq6
  have V1 := Lib.hid (fun W => var_any l W hll hl2)
  have V2 := Lib.hid (fun W => abs_any l W hll hl2)
  have V3 := Lib.hid (fun W => is_any l vars W hll hl2)
  have V4 := Lib.hid (fun W => refIs_any l vars W hll hl2 hv1 hv2)
  rw [show (decide (1 ≤ absI l) && decide (absI l ≤ vars)) = isB vars l from rfl] at V3
  generalize isB vars l = bl at *
  generalize absI l = al at *
  have q1 : (al == al) = true := by simp
  have q2 : (bl == bl) = true := by simp
  have q3 : (sa == sa) = true := by simp
  have q4 : (rb == rb) = true := by simp
  have HCK := Lib.hid (fun W (hW : Below w6.heap.size w6 W) => check_any A cv ac cc xss W (HS.out.keep (hbw6.trans (hW.mono hbw6.size))) hw1 hw2 (HRC.out.keep (hbw6.trans (hW.mono hbw6.size))) IC.out (fun xs hx => by have := HSM.out xs hx; omega))
  have HCR := Lib.hid (fun W (hW : Below w6.heap.size w6 W) => refCheck_any cv ac cc xss W hw1 hw2 (HRC.out.keep (hbw6.trans (hW.mono hbw6.size))) IC.out (by rw [HNC.out]; omega) (fun xs hx => by have := HSM.out xs hx; omega))
  rw [HNC.out] at HCK HCR
  have HY := Lib.hid (fun ev c p k W (h : ErrAs W ev c p k) => see_yes ev c p k W h)
  have Z1 := Lib.hid (fun W (hW : Below w6.heap.size w6 W) => same_any _ _ xa xb W (HRA.out.keep (hbw6.trans (hW.mono hbw6.size))) (HRB.out.keep (hbw6.trans (hW.mono hbw6.size))) IA.out IB.out (by rw [HNA.out]; omega) (by rw [HNB.out]; omega))
  have Z2 := Lib.hid (fun W (hW : Below w6.heap.size w6 W) => refSame_any _ _ xa xb W (HRA.out.keep (hbw6.trans (hW.mono hbw6.size))) (HRB.out.keep (hbw6.trans (hW.mono hbw6.size))) IA.out IB.out (by rw [HNA.out]; omega) (by rw [HNB.out]; omega))
  generalize decide (normL xa = normL xb) = dn at *
  have q5 : (dn == dn) = true := by simp
  have CK := Lib.hid (show ∀ W, Below w6.heap.size w6 W → W.cell? ⟨w.heap.size, 0, none⟩ = some (.int .i64 cv) ∧ W.cell? ⟨w.heap.size, 1, none⟩ = some (.slice ac nc cc) from fun W hW =>
    ⟨(hW.cell (p := ⟨w.heap.size, 0, none⟩) hle6).trans c60, (hW.cell (p := ⟨w.heap.size, 1, none⟩) hle6).trans c61⟩)
  clear hle6
  have HBW := Lib.hid hbw6; clear hbw6
  clear e1 e2 e3 e4 e5 h1 h2 h3 h4 hsm hna hnb hny hnc hca hcb' hcy hcc HF HS HRA HRB HRY HRC HAB HBB HYB HCB HLEN HNA HNB HNY HNC HSM IA IB IY IC c60 c61 X1 X2 X3 X4
  go_wp2_with fail
  go_region_held3 (fun W => W.cell? ⟨w.heap.size, 0, none⟩ = some (.int .i64 cv) ∧ W.cell? ⟨w.heap.size, 1, none⟩ = some (.slice ac nc cc)) (first | exact CK.out _ (Below.refl _ _).drew | exact CK.out _ hb7 | exact CK.out _ hb8 | exact CK.out _ hb9 | exact CK.out _ hb10 | exact CK.out _ hb11 | exact CK.out _ hb12 | exact CK.out _ hb13) (first
    | (go_at_call 13; refine (V1.out _).mono ?_; rintro e w' ⟨rfl, rfl⟩)
    | (go_at_call 14; refine (V2.out _).mono ?_; rintro e w' ⟨rfl, rfl⟩)
    | (go_at_call 15; refine (V3.out _).mono ?_; rintro e w' ⟨rfl, rfl⟩)
    | (go_at_call 16; refine (V4.out _).mono ?_; rintro e w' ⟨rfl, rfl⟩)
    | (go_at_call_of 17 vx; refine (S1.out _ ?_).mono ?_; exact (Below.refl _ _).drew; rintro e w7 ⟨rfl, hb7'⟩; have hb7 : Below w6.heap.size w6 w7 := ((Below.refl _ _).drew).trans (hb7'.mono (by simp)); clear hb7')
    | (go_at_call 19; refine (HCK.out _ hb7).mono ?_; rintro e w8 ⟨ev, c, p, k, rfl, hF, hE, _, _, hb8'⟩; have hb8 : Below w6.heap.size w6 w8 := hb7.trans (hb8'.mono hb7.size); have HFF := Lib.hid hF; have HEE := Lib.hid hE; clear hF hE hb8')
    | (go_at_call 20; refine (HCR.out _ hb8).mono ?_; rintro e w9 ⟨c', p', k', rfl, hF', hb9'⟩; obtain ⟨rfl, rfl, rfl⟩ := checkF_one HFF.out hF'; have HYY := Lib.hid (HY.out _ _ _ _ _ (HEE.out.keep hb9')); have hb9 : Below w6.heap.size w6 w9 := hb8.trans (hb9'.mono hb8.size); clear hb9' hF')
    | (go_at_call 18; refine HYY.out.mono ?_; rintro e w10 ⟨rfl, hb10'⟩; have hb10 : Below w6.heap.size w6 w10 := hb9.trans (hb10'.mono hb9.size); clear hb10')
    | (go_at_call 21; refine (Z1.out _ hb10).mono ?_; rintro e w11 ⟨rfl, hb11'⟩; have hb11 : Below w6.heap.size w6 w11 := hb10.trans (hb11'.mono hb10.size); clear hb11')
    | (go_at_call 22; refine (Z2.out _ hb11).mono ?_; rintro e w12 ⟨rfl, hb12'⟩; have hb12 : Below w6.heap.size w6 w12 := hb11.trans (hb12'.mono hb11.size); clear hb12')
    | (go_at_call_of 17 vp; refine (S2.out _ hb12).mono ?_; rintro e w13 ⟨rfl, hb13'⟩; have hb13 : Below w6.heap.size w6 w13 := hb12.trans (hb13'.mono hb12.size); clear hb13'))
  all_goals
    go_wp2_with fail
    go_ret
    exact ⟨rfl, HBW.out.trans (hb13.mono HBW.out.size)⟩
end Go.Proofs.YtcndkdlpicffpaaDoor
