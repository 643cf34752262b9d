/- Contracts of look's Depth and the document's: 'depthV'. Conditions: the circuit is right, the rows read as those typed; for the program's the two errors lie as 'Sents2' says. -/
import Derived.Test.YtdmhjpofinnpmaaDoorLkM
import Derived.Deep.DeepCutAuto
import Derived.Deep.RegionHeld3
import Derived.Test.YtdmhjpofinnpmaaDoorAppS
import Derived.Test.YtdmhjpofinnpmaaDoorBst
namespace Go.Proofs.YtdmhjpofinnpmaaDoor
open Go.RowKit

/-- The two loads of depths: their block turns within their region. -/
def ldDa : Op := Op.load 3 (Operand.tmp 28)
def ldDb : Op := Op.load 3 (Operand.tmp 34)
theorem ldDa_eq : ldDa = Op.load 3 (Operand.tmp 28) := rfl
theorem ldDb_eq : ldDb = Op.load 3 (Operand.tmp 34) := rfl
theorem step_ldI (n : Nat) (ld : Op) (hld : ld = Op.load 3 (Operand.tmp n)) {ops : Array Oper} {o : Oper} {a : Act} {K : Act → World → Prop} {Q : Exit → Act → World → Prop} {EE : Prop} (hgd : o.guard = none) (ho : o.op = ld) (w : World) (b i : Nat) (v : Value) (hx : a.eval (Operand.tmp n) = .pointer (some ⟨b, i, none⟩)) (hc : w.cell? ⟨b, i, none⟩ = some v) (h : K (a.put o.dst v) w) :
    if Region.wanted o (yielded ops a.tmps) = true then Oper.wp Tryd.prog o a w K Q else EE := by
  rw [if_pos (by simp [Region.wanted, hgd])]
  have hrun : (loadVar 3 ⟨b, i, none⟩).run Tryd.prog w = .ok v w := by
    simp [loadVar, isAgg, run_underlying Tryd.underlying3, hc, go_sem]
  have ho' := ho.trans hld
  unfold Oper.wp execOp
  simp only [ho', hx, Instr.loadAt, Instr.sureAddr, Sem.run_bind, Sem.run_pure, Result.andThen_ok, hrun]
  exact h

set_option maxRecDepth 8000 in
set_option maxHeartbeats 4000000 in
theorem ldepth_any (A : Nat → Addr) (N : Nat) (u v : Value) (ps : List (Int × Int)) (os : List Int) (w : World) (hs : Sents2 w A) (hu : PRow w u ps) (hv : Row w v os) (hol : os.length ≤ 1000000) (hob : ∀ o ∈ os, in64 o) (hc : checkC (N : Int) ps os = 0) :
    Calls Tryd.prog 21 #[circV (N : Int) u v] w fun e w' => e = .returned (.int .i64 (depthV N ps os)) ∧ Below w.heap.size w w' := by
  obtain ⟨hnm, hokp, hoko⟩ := check_zero8 hc
  have HCK := Lib.hid (fun W (hW : Below w.heap.size w W) => gcheck_any A (N : Int) u v ps os W (hs.keep hW) (hu.keep hW) (hv.keep hW) ⟨by omega, by omega⟩ (by omega) hol (okP_in hnm hokp) hob)
  rw [hc, show errC A 0 = .nilIface from rfl] at HCK
  obtain ⟨a1, c1, rfl, hu1, hu2, hu3⟩ := hu
  obtain ⟨a2, c2, rfl, hv1, hv2, hv3⟩ := hv
  unfold maxLen at hu2 hv2
  have HU := Lib.hid hu3
  have HV := Lib.hid hv3
  have HBX := Lib.hid (fun W hW => cirC_box w W (N : Int) (.slice a1 ps.length c1) (.slice a2 os.length c2) hW)
  unfold CirC at HBX
  have HB0 : Hid ((w.alloc (.cells #[.int .i64 (N : Int), .slice a1 ps.length c1, .slice a2 os.length c2] 26)).heap.size = w.heap.size + 1) := by unfold Hid; simp
  rw [← HB0.out] at HBX
  have HOKP := Lib.hid hokp
  have HOKO := Lib.hid hoko
  have HTK := Lib.hid (fun k (hk : k < ps.length) => depthsV_take N ps k hk)
  have HDI := Lib.hid (fun k (hk : k ≤ ps.length) => DepI.at N ps k hk)
  have HTE : Hid (ps.take ps.length = ps) := List.take_length
  have HTO := Lib.hid (fun d k (hk : k < os.length) => depthO_take d os k hk)
  have HTE2 : Hid (os.take os.length = os) := List.take_length
  have HDV : Hid (depthV N ps os = depthO (depthsV N ps) os) := rfl
  clear hc hokp hoko hs hob hu1 hv1 hu3 hv3
  unfold circV at *
  generalize depthV N ps os = fin at *
  generalize ps.length = m at *
  generalize os.length = lo at *
  go_enter Tryd.func21, Tryd.ntmps21
  go_wp2_with fail
  generalize w.alloc (.cells #[.int .i64 (N : Int), .slice a1 m c1, .slice a2 lo c2] 26) = w0 at *
  refine (HCK.out _ (HBX.out _ (Below.refl _ _)).2).mono ?_
  rintro e w1 ⟨rfl, hb1⟩
  have HB1 := Lib.hid hb1
  obtain ⟨⟨k0, k1, k2⟩, hbw⟩ := HBX.out _ hb1
  clear hbw hb1
  go_wp2_with (at_make; refine wpList_makeH (Value.int .i64) 0 22 3 8 Tryd.underlying22 infoInt rfl (by decide) rfl _ _ rfl w1 (1 + N) rfl rfl (by omega) ?_; intro w2 hh hb2 hsz2; rw [show 1 + N = N + 1 from Nat.add_comm 1 N] at hh ⊢; have HOWN := Lib.hid (show w2.ownsRow w1.heap.size 3 1 (.slice (some ⟨w1.heap.size, 0, none⟩) (N + 1) (N + 1)) (List.replicate (N + 1) (0 : Int)).length ((List.replicate (N + 1) (0 : Int)).map (Value.int .i64)) by rw [List.length_replicate]; exact own_at hh (Nat.le_refl _) (by simp) (by unfold maxLen; omega)); have HB2 := Lib.hid (HB1.out.trans (hb2.mono HB1.out.size)); have HSZ := Lib.hid (Nat.le_of_lt hsz2); obtain ⟨⟨t0, t1, t2⟩, hbw2⟩ := HBX.out _ HB2.out; clear hh hb2 hsz2 k0 k1 k2 hbw2)
  clear t0 t1 t2
  have HSQ : Hid (w0.heap.size ≤ w1.heap.size) := HB1.out.size
  generalize w1.heap.size = q at *
  go_loopw [19, 3, 5] (fun i u _ wr => ∃ (k : Nat) (d : List Int), k ≤ m ∧ i = .int .i64 (k : Int) ∧ wr.ownsRow q 3 1 u d.length (d.map (Value.int .i64)) ∧ Below w0.heap.size w0 wr ∧ q ≤ wr.heap.size ∧ Hid (d = depthsV N (ps.take k))) (fun i _ _ _ => m - (intOf i).toNat)
  case atStart => exact ⟨0, List.replicate (N + 1) 0, Nat.zero_le _, rfl, by first | exact HOWN.out | (have := HOWN.out; simpa using this), HB2.out, HSZ.out, by rw [List.take_zero]; rfl⟩
  case round =>
    obtain ⟨k, d, hk, rfl, hown, hbr, hsz, HS⟩ := hrel
    have HLD := Lib.hid (HDI.out k hk)
    rw [← HS.out] at HLD
    clear HOWN HB2 HSZ
    obtain ⟨⟨t0, t1, t2⟩, hbw⟩ := HBX.out _ hbr
    by_cases hlt : k < m
    · obtain ⟨b, off, ha, hbl, hcl⟩ := HU.out.resolve_left (by omega)
      subst ha
      obtain ⟨x0, x1⟩ := hcl k hlt
      have y0 := (hbw.cell (p := ⟨b, off + k * 2, none⟩) hbl).trans x0
      have y1 := (hbw.cell (p := ⟨b, off + k * 2 + 1, none⟩) hbl).trans x1
      obtain ⟨o1, o2, o3⟩ := (okP_iff _ _ _).1 (HOKP.out k hlt)
      have HTT := Lib.hid (HTK.out k hlt)
      rw [← HS.out] at HTT
      have hdl : d.length = N + 1 + k := HLD.out.len
      clear hcl x0 x1 hbw
      generalize ps.getD k (0, 0) = xy at *
      obtain ⟨x, y⟩ := xy
      simp only at o1 o2 o3 y0 y1 HTT
      obtain ⟨X, hX⟩ : ∃ X : Nat, x / 2 = (X : Int) := ⟨(x / 2).toNat, by omega⟩
      obtain ⟨Y, hY⟩ : ∃ Y : Nat, y / 2 = (Y : Int) := ⟨(y / 2).toNat, by omega⟩
      have hXn : X < d.length := by omega
      have hYn : Y < d.length := by omega
      have hq1 : x.tdiv 2 = (X : Int) := by rw [Int.tdiv_eq_ediv_of_nonneg (by omega)]; exact hX
      have hq2 : y.tdiv 2 = (Y : Int) := by rw [Int.tdiv_eq_ediv_of_nonneg (by omega)]; exact hY
      have l1 := HLD.out.lo X
      have l2 := HLD.out.hi X
      have l3 := HLD.out.lo Y
      have l4 := HLD.out.hi Y
      have HSD : Hid (stepD d (x, y) = d ++ [1 + max (d.getD X 0) (d.getD Y 0)]) := by
        unfold Hid stepD
        simp only
        rw [hX, hY]
        rfl
      rw [HSD.out] at HTT
      have HROW := Lib.hid (own_row hown)
      have HPB : Hid (Below wr.heap.size wr (wr.alloc (.cells #[.int .i64 x, .int .i64 y] 49))) := (Below.refl _ _).alloc (Nat.le_refl _) _
      have HP2 := Lib.hid (own_keep hown HPB.out)
      have HP3 := Lib.hid (hbr.trans (HPB.out.mono hbr.size))
      have HP4 : Hid (q ≤ (wr.alloc (.cells #[.int .i64 x, .int .i64 y] 49)).heap.size) := Nat.le_trans hsz HPB.out.size
      obtain ⟨p0, p1⟩ := two_new wr wr.heap.size rfl (.int .i64 x) (.int .i64 y) 49
      have hpl : wr.heap.size < (wr.alloc (.cells #[.int .i64 x, .int .i64 y] 49)).heap.size := by simp
      obtain ⟨g, cd, rfl, hgq, hgl, hnc, hcm⟩ := own_some hown (by omega)
      have hcx : ∀ i, i < d.length → wr.cell? ⟨g, i, none⟩ = some (.int .i64 (d.getD i 0)) := fun i hi => by
        have := hown.cells (g := g) rfl i (.int .i64 (d.getD i 0)) (by simp [List.getD, hi])
        rwa [show (⟨g, 0, none⟩ : Addr).add i = ⟨g, i, none⟩ by unfold Addr.add; split <;> simp_all] at this
      have dX := (HPB.out.cell (p := ⟨g, X, none⟩) hgl).trans (hcx X hXn)
      have dY := (HPB.out.cell (p := ⟨g, Y, none⟩) hgl).trans (hcx Y hYn)
      have HDL := Lib.hid hdl
      clear hdl hcx hX hY o1 o2 o3 hown hbr
      generalize hmx : max (d.getD X 0) (d.getD Y 0) = mx at *
      have hmx3 : (d.getD Y 0 < d.getD X 0 ∧ ¬ d.getD X 0 < d.getD Y 0 ∧ mx = d.getD X 0) ∨ (d.getD X 0 < d.getD Y 0 ∧ ¬ d.getD Y 0 < d.getD X 0 ∧ mx = d.getD Y 0) ∨ (d.getD X 0 = d.getD Y 0 ∧ mx = d.getD X 0) := by omega
      clear hmx
      generalize d.getD X 0 = vx at *
      generalize d.getD Y 0 = vy at *
      have hbX : X ≤ 8000 := by have := HDL.out; omega
      have hbY : Y ≤ 8000 := by have := HDL.out; omega
      have hndb : d.length ≤ 10000 := by have := HDL.out; omega
      generalize hnd : d.length = nd at *
      have HND := Lib.hid hnd
      clear hnd
      have i1 : (0 : Int) ≤ (X : Int) := Int.natCast_nonneg X
      have i2 : (X : Int) < (nd : Int) := by omega
      have i3 : (0 : Int) ≤ (Y : Int) := Int.natCast_nonneg Y
      have i4 : (Y : Int) < (nd : Int) := by omega
      go_upto_region 7 with fail
      generalize wr.alloc (.cells #[.int .i64 x, .int .i64 y] 49) = wp at *
      generalize wr.heap.size = p at *
      have HP0 := Lib.hid (And.intro p0 p1)
      have dX1 : wp.drew.cell? ⟨g, X, none⟩ = some (.int .i64 vx) := dX
      have dY1 : wp.drew.cell? ⟨g, Y, none⟩ = some (.int .i64 vy) := dY
      have w1x : IntKind.i64.wrap (1 + vx) = 1 + vx := IntWalk.i64_in _ (by omega)
      have w1y : IntKind.i64.wrap (1 + vy) = 1 + vy := IntWalk.i64_in _ (by omega)
      have HFF : Hid (∀ z : Int, Hid (Below wp.heap.size wp (wp.drew.alloc (.cells #[.int .i64 z] 3))) ∧ Hid ((wp.drew.alloc (.cells #[.int .i64 z] 3)).ownsRow q 3 1 (.slice (some ⟨g, 0, none⟩) nd cd) nd (d.map (Value.int .i64))) ∧ Hid (q ≤ (wp.drew.alloc (.cells #[.int .i64 z] 3)).heap.size) ∧
          Hid ((wp.drew.alloc (.cells #[.int .i64 z] 3)).cell? ⟨p, 0, none⟩ = some (.int .i64 x) ∧ (wp.drew.alloc (.cells #[.int .i64 z] 3)).cell? ⟨p, 1, none⟩ = some (.int .i64 y)) ∧
          Hid (∀ u6 w6, w6.ownsRow q 3 1 u6 (nd + 1) (d.map (Value.int .i64) ++ [.int .i64 z]) → App q (wp.drew.alloc (.cells #[.int .i64 z] 3)) w6 (.slice (some ⟨g, 0, none⟩) nd cd) u6 → (w6.cell? ⟨p, 0, none⟩ = some (.int .i64 x) ∧ w6.cell? ⟨p, 1, none⟩ = some (.int .i64 y)) ∧ w6.ownsRow q 3 1 u6 (d ++ [z]).length ((d ++ [z]).map (Value.int .i64)) ∧ Below w0.heap.size w0 w6 ∧ q ≤ w6.heap.size)) := fun z => by
        have hBA : Below wp.heap.size wp (wp.drew.alloc (.cells #[.int .i64 z] 3)) := ((Below.refl _ _).drew).alloc (Nat.le_refl _) _
        have hz : q ≤ (wp.drew.alloc (.cells #[.int .i64 z] 3)).heap.size := Nat.le_trans HP4.out hBA.size
        have hc0 := (hBA.cell (p := ⟨p, 0, none⟩) hpl).trans p0
        have hc1 := (hBA.cell (p := ⟨p, 1, none⟩) hpl).trans p1
        refine ⟨hBA, own_keep HP2.out hBA, hz, ⟨hc0, hc1⟩, fun u6 w6 hown6 hap => ?_⟩
        have hpp := hap.other p (World.block_lt_of_cell? _ _ hc0) (by simp [Value.ownBlock]; omega)
        exact ⟨⟨(World.cell?_of_block (a := ⟨p, 0, none⟩) hpp).trans hc0, (World.cell?_of_block (a := ⟨p, 1, none⟩) hpp).trans hc1⟩, by rw [List.length_append, List.length_singleton, HND.out, List.map_append]; exact hown6, (HP3.out.trans (hBA.mono HP3.out.size)).trans (hap.below.mono HSQ.out), Nat.le_trans hz hap.below.size⟩
      clear HP2 HP3 HP4 p0 p1 HROW
      have wX : IntKind.i64.wrap (X : Int) = (X : Int) := IntWalk.i64_in _ (by omega)
      have wY : IntKind.i64.wrap (Y : Int) = (Y : Int) := IntWalk.i64_in _ (by omega)
      rcases hmx3 with ⟨m1, m2, m3⟩ | ⟨m1, m2, m3⟩ | ⟨m1, m3⟩
      · rw [m3] at HTT
        clear m3
        obtain ⟨HBA, HOW, HSA, HP2K, HF⟩ := HFF.out (1 + vx)
        have HP1 : Hid (wp.drew.cell? ⟨p, 0, none⟩ = some (.int .i64 x) ∧ wp.drew.cell? ⟨p, 1, none⟩ = some (.int .i64 y)) := HP0.out
        rw [← ldDa_eq, ← ldDb_eq]
        have hda := ldDa_eq
        have hdb := ldDb_eq
        · skip
          go_region_held3 (fun W => W.cell? ⟨p, 0, none⟩ = some (.int .i64 x) ∧ W.cell? ⟨p, 1, none⟩ = some (.int .i64 y)) (first | (with_reducible exact HP0.out) | (with_reducible exact HP1.out) | (with_reducible exact HP2K.out) | (with_reducible exact HP6.out) | (exact HP1.out) | (exact HP2K.out)) (first
            | (refine step_ldI 28 ldDa ldDa_eq rfl rfl _ g X (.int .i64 vx) rfl (by first | exact dX1 | exact dX) ?_)
            | (refine step_ldI 34 ldDb ldDb_eq rfl rfl _ g Y (.int .i64 vy) rfl (by first | exact dY1 | exact dY) ?_)
            | (refine step_appC 22 3 _ 1 8 Tryd.underlying22 infoInt rfl (by decide) (by decide) rfl _ _ rfl _ q (.slice (some ⟨g, 0, none⟩) nd cd) nd (d.map (Value.int .i64)) (some ⟨wp.heap.size, 0, none⟩) 1 1 [.int .i64 (1 + vx)] HOW.out HSA.out (by omega) rfl (.inr ⟨_, rfl, lit_cells wp.drew _⟩) (lit_one _) rfl rfl ?_; intro u6 w6 hown6 hap6; obtain ⟨e6, hf6⟩ := HF.out u6 w6 hown6 hap6; have HP6 := Lib.hid e6; have HF6 := Lib.hid hf6; clear hown6 hap6 hf6 e6))
          all_goals
            clear hda hdb
            go_wp2_with fail
            go_roundw
          all_goals first
            | exact ⟨k + 1, d ++ [1 + vx], by omega, by go_num, HF6.out.1, HF6.out.2.1, HF6.out.2.2, HTT.out.symm⟩
            | (simp [intOf]; omega)
      · rw [m3] at HTT
        clear m3
        obtain ⟨HBA, HOW, HSA, HP2K, HF⟩ := HFF.out (1 + vy)
        have HP1 : Hid (wp.drew.cell? ⟨p, 0, none⟩ = some (.int .i64 x) ∧ wp.drew.cell? ⟨p, 1, none⟩ = some (.int .i64 y)) := HP0.out
        rw [← ldDa_eq, ← ldDb_eq]
        have hda := ldDa_eq
        have hdb := ldDb_eq
        · skip
          go_region_held3 (fun W => W.cell? ⟨p, 0, none⟩ = some (.int .i64 x) ∧ W.cell? ⟨p, 1, none⟩ = some (.int .i64 y)) (first | (with_reducible exact HP0.out) | (with_reducible exact HP1.out) | (with_reducible exact HP2K.out) | (with_reducible exact HP6.out) | (exact HP1.out) | (exact HP2K.out)) (first
            | (refine step_ldI 28 ldDa ldDa_eq rfl rfl _ g X (.int .i64 vx) rfl (by first | exact dX1 | exact dX) ?_)
            | (refine step_ldI 34 ldDb ldDb_eq rfl rfl _ g Y (.int .i64 vy) rfl (by first | exact dY1 | exact dY) ?_)
            | (refine step_appC 22 3 _ 1 8 Tryd.underlying22 infoInt rfl (by decide) (by decide) rfl _ _ rfl _ q (.slice (some ⟨g, 0, none⟩) nd cd) nd (d.map (Value.int .i64)) (some ⟨wp.heap.size, 0, none⟩) 1 1 [.int .i64 (1 + vy)] HOW.out HSA.out (by omega) rfl (.inr ⟨_, rfl, lit_cells wp.drew _⟩) (lit_one _) rfl rfl ?_; intro u6 w6 hown6 hap6; obtain ⟨e6, hf6⟩ := HF.out u6 w6 hown6 hap6; have HP6 := Lib.hid e6; have HF6 := Lib.hid hf6; clear hown6 hap6 hf6 e6))
          all_goals
            clear hda hdb
            go_wp2_with fail
            go_roundw
          all_goals first
            | exact ⟨k + 1, d ++ [1 + vy], by omega, by go_num, HF6.out.1, HF6.out.2.1, HF6.out.2.2, HTT.out.symm⟩
            | (simp [intOf]; omega)
      · rw [m3] at HTT
        clear m3
        subst m1
        have m2 : ¬ vx < vx := Int.lt_irrefl _
        obtain ⟨HBA, HOW, HSA, HP2K, HF⟩ := HFF.out (1 + vx)
        have HP1 : Hid (wp.drew.cell? ⟨p, 0, none⟩ = some (.int .i64 x) ∧ wp.drew.cell? ⟨p, 1, none⟩ = some (.int .i64 y)) := HP0.out
        rw [← ldDa_eq, ← ldDb_eq]
        have hda := ldDa_eq
        have hdb := ldDb_eq
        · skip
          go_region_held3 (fun W => W.cell? ⟨p, 0, none⟩ = some (.int .i64 x) ∧ W.cell? ⟨p, 1, none⟩ = some (.int .i64 y)) (first | (with_reducible exact HP0.out) | (with_reducible exact HP1.out) | (with_reducible exact HP2K.out) | (with_reducible exact HP6.out) | (exact HP1.out) | (exact HP2K.out)) (first
            | (refine step_ldI 28 ldDa ldDa_eq rfl rfl _ g X (.int .i64 vx) rfl (by first | exact dX1 | exact dX) ?_)
            | (refine step_ldI 34 ldDb ldDb_eq rfl rfl _ g Y (.int .i64 vx) rfl (by first | exact dY1 | exact dY) ?_)
            | (refine step_appC 22 3 _ 1 8 Tryd.underlying22 infoInt rfl (by decide) (by decide) rfl _ _ rfl _ q (.slice (some ⟨g, 0, none⟩) nd cd) nd (d.map (Value.int .i64)) (some ⟨wp.heap.size, 0, none⟩) 1 1 [.int .i64 (1 + vx)] HOW.out HSA.out (by omega) rfl (.inr ⟨_, rfl, lit_cells wp.drew _⟩) (lit_one _) rfl rfl ?_; intro u6 w6 hown6 hap6; obtain ⟨e6, hf6⟩ := HF.out u6 w6 hown6 hap6; have HP6 := Lib.hid e6; have HF6 := Lib.hid hf6; clear hown6 hap6 hf6 e6))
          all_goals
            clear hda hdb
            go_wp2_with fail
            go_roundw
          all_goals first
            | exact ⟨k + 1, d ++ [1 + vx], by omega, by go_num, HF6.out.1, HF6.out.2.1, HF6.out.2.2, HTT.out.symm⟩
            | (simp [intOf]; omega)
    · have hkm : m = k := by omega
      have HD : Hid (d = depthsV N ps) := by
        have := HS.out
        rw [← hkm, HTE.out] at this
        exact this
      have HBD := Lib.hid (depthO_bd d 8000 (by omega) (fun j => by have := HLD.out.hi j; omega))
      have HDL : Hid (d.length = N + 1 + m) := by unfold Hid; rw [hkm]; exact HLD.out.len
      obtain ⟨g, cd, rfl, hgq, hgl, hnc, hcm⟩ := own_some hown (by have := HDL.out; omega)
      have HCX : Hid (∀ i, i < d.length → wr.cell? ⟨g, i, none⟩ = some (.int .i64 (d.getD i 0))) := fun i hi => by
        have := hown.cells (g := g) rfl i (.int .i64 (d.getD i 0)) (by simp [List.getD, hi])
        rwa [show (⟨g, 0, none⟩ : Addr).add i = ⟨g, i, none⟩ by unfold Addr.add; split <;> simp_all] at this
      have HBW := Lib.hid hbw
      have HT2 := Lib.hid (fun j hj => HTO.out d j hj)
      have HF2 : Hid (depthO d os = fin) := by unfold Hid; rw [HD.out]; exact HDV.out.symm
      have HLOD := Lib.hid (fun j => And.intro (HLD.out.lo j) (HLD.out.hi j))
      have hm8 : m ≤ 8000 := by omega
      clear hown hbr hbw hsz hkm hk HTK HDI HS HTO
      generalize hnd : d.length = nd at *
      have HND := Lib.hid hnd
      clear hnd
      go_wp2_with fail
      go_loop [44, 6, 8] (fun i o _ => ∃ j : Nat, j ≤ lo ∧ i = .int .i64 (j : Int) ∧ o = .int .i64 (depthO d (os.take j))) (fun i _ _ => lo - (intOf i).toNat)
      case atStart => exact ⟨0, Nat.zero_le _, rfl, rfl⟩
      case round =>
        obtain ⟨j, hj, rfl, rfl⟩ := hrel
        by_cases hlt2 : j < lo
        · obtain ⟨b, off, ha, hbl, hcl⟩ := HV.out.resolve_left (by omega)
          subst ha
          have y0 := (HBW.out.cell (p := ⟨b, off + j, none⟩) hbl).trans (hcl j hlt2)
          obtain ⟨o1, o2⟩ := (okO_iff _ _).1 (HOKO.out j hlt2)
          have HTT := Lib.hid (HT2.out j hlt2)
          have hb := HBD.out (os.take j)
          clear hcl
          generalize os.getD j 0 = o at *
          obtain ⟨X, hX⟩ : ∃ X : Nat, o / 2 = (X : Int) := ⟨(o / 2).toNat, by omega⟩
          have hXn : X < nd := by have := HDL.out; omega
          have hX8 : X ≤ 8000 := by omega
          have hq1 : o.tdiv 2 = (X : Int) := by rw [Int.tdiv_eq_ediv_of_nonneg o1]; exact hX
          have dX := HCX.out X hXn
          have hl := HLOD.out X
          rw [hX, show ((X : Int)).toNat = X by omega] at HTT
          generalize depthO d (os.take j) = c at *
          have hmx3 : (d.getD X 0 < c ∧ ¬ c < d.getD X 0 ∧ max c (d.getD X 0) = c) ∨ (c < d.getD X 0 ∧ ¬ d.getD X 0 < c ∧ max c (d.getD X 0) = d.getD X 0) ∨ (c = d.getD X 0 ∧ max c (d.getD X 0) = c) := by omega
          clear hX o1 o2
          generalize d.getD X 0 = vx at *
          rcases hmx3 with ⟨m1, m2, m3⟩ | ⟨m1, m2, m3⟩ | ⟨m1, m3⟩
          · rw [m3] at HTT
            clear m3
            go_wp2_with fail
            go_round
            case rel => exact ⟨j + 1, by omega, by go_num, by rw [HTT.out]⟩
            case measure => simp [intOf]; omega
          · rw [m3] at HTT
            clear m3
            go_wp2_with fail
            go_round
            case rel => exact ⟨j + 1, by omega, by go_num, by rw [HTT.out]⟩
            case measure => simp [intOf]; omega
          · rw [m3] at HTT
            clear m3
            subst m1
            have m2 : ¬ c < c := Int.lt_irrefl _
            go_wp2_with fail
            go_round
            case rel => exact ⟨j + 1, by omega, by go_num, by rw [HTT.out]⟩
            case measure => simp [intOf]; omega
        · have hjl : lo = j := by omega
          subst hjl
          rw [HTE2.out, HF2.out]
          go_wp2_with fail
          go_ret
          exact ⟨rfl, HBW.out⟩
end Go.Proofs.YtdmhjpofinnpmaaDoor
