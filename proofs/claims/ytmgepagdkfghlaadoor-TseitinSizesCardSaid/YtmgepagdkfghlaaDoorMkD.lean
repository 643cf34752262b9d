/- The contract of skolemmake.Circuit: a right circuit in memory of the call's own. Conditions: the slices read as 64-bit ints and are short; at most 50 inputs. -/
import Derived.Test.YtmgepagdkfghlaaDoorMkC
namespace Go.Proofs.YtmgepagdkfghlaaDoor
open Go.RowKit

/-- The load of the outputs' cell: it turns within its region. -/
def ldMk : Op := Op.load 23 (Operand.tmp 60)
theorem ldMk_eq : ldMk = Op.load 23 (Operand.tmp 60) := rfl
theorem step_ldMk {ops : Array Oper} {o : Oper} {a : Act} {K : Act → World → Prop} {Q : Exit → Act → World → Prop} {EE : Prop} (hgd : o.guard = none) (ho : o.op = ldMk) (w : World) (b i : Nat) (v : Value) (hx : a.eval (Operand.tmp 60) = .pointer (some ⟨b, i, none⟩)) (hc : w.cell? ⟨b, i, none⟩ = some v) (h : K (a.put o.dst v) w) :
    if Region.wanted o (yielded ops a.tmps) = true then Oper.wp Tryd.prog o a w K Q else EE := by
  rw [if_pos (by simp [Region.wanted, hgd])]
  have hrun : (loadVar 23 ⟨b, i, none⟩).run Tryd.prog w = .ok v w := by
    simp [loadVar, isAgg, run_underlying Tryd.underlying23, hc, go_sem]
  have ho' := ho.trans ldMk_eq
  unfold Oper.wp execOp
  simp only [ho', hx, Instr.loadAt, Instr.sureAddr, Sem.run_bind, Sem.run_pure, Result.andThen_ok, hrun]
  exact h
/-- What it answers. -/
def MkPost (w : World) (N : Nat) (l o : Nat) (e : Ending) (w' : World) : Prop :=
  (∃ u v ps os, e = .returned (circV (N : Int) u v) ∧ PRow w' u ps ∧ Row w' v os ∧ checkC (N : Int) ps os = 0 ∧ ps.length ≤ l ∧ os.length = o ∧ (∀ x ∈ ps, in64 x.1 ∧ in64 x.2) ∧ ∀ o ∈ os, in64 o) ∧ Below w.heap.size w w'
theorem okP_in {n : Nat} {ps : List (Int × Int)} (hn : n + ps.length ≤ 8000) (h : ∀ k, k < ps.length → okP n k (ps.getD k (0, 0)) = true) : ∀ x ∈ ps, in64 x.1 ∧ in64 x.2 := by
  intro x hx
  obtain ⟨k, hk, rfl⟩ := List.getElem_of_mem hx
  have := (okP_iff _ _ _).1 (h k hk)
  simp only [List.getD, List.getElem?_eq_getElem hk, Option.getD_some] at this
  unfold in64
  omega
theorem okO_in {m : Nat} {os : List Int} (hn : m ≤ 8000) (h : ∀ o ∈ os, okO m o = true) : ∀ o ∈ os, in64 o := by
  intro o ho
  have := (okO_iff _ _).1 (h o ho)
  unfold in64
  omega
theorem mk_right {N : Nat} {ps : List (Int × Int)} {os : List Int} (hn : N + ps.length ≤ 8000) (h : ∀ k, k < ps.length → okP N k (ps.getD k (0, 0)) = true) (ho : ∀ o ∈ os, okO (N + ps.length) o = true) : checkC (N : Int) ps os = 0 := by
  unfold checkC
  rw [if_neg (by omega), if_pos]
  rw [show ((N : Int)).toNat = N by omega]
  unfold rightC
  rw [Bool.and_eq_true]
  exact ⟨(okA_iff N ps).2 h, List.all_eq_true.2 ho⟩

set_option maxRecDepth 8000 in
set_option maxHeartbeats 4000000 in
theorem mkc_any (N : Nat) (u v : Value) (ls os : List Int) (w : World) (hu : Row w u ls) (hv : Row w v os) (hN : N ≤ 50) (hl : ls.length ≤ 200) (ho : os.length ≤ 20) (hlb : ∀ y ∈ ls, in64 y) (hob : ∀ y ∈ os, in64 y) :
    Calls Tryd.prog 11 #[.int .i64 (N : Int), u, v] w (MkPost w N ls.length os.length) := by
  obtain ⟨a1, c1, rfl, hu1, hu2, hu3⟩ := hu
  obtain ⟨a2, c2, rfl, hv1, hv2, hv3⟩ := hv
  unfold maxLen at hu2 hv2
  have HU := Lib.hid hu3; clear hu3
  have HV := Lib.hid hv3; clear hv3
  have HLB : Hid (∀ k, k < ls.length → in64 (ls.getD k 0)) := fun k hk => hlb _ (by simp [List.getD, hk])
  have HOB : Hid (∀ k, k < os.length → in64 (os.getD k 0)) := fun k hk => hob _ (by simp [List.getD, hk])
  clear hlb hob
  generalize hmm : ls.length = m at *
  generalize hll : os.length = l at *
  have HM := Lib.hid hmm; clear hmm
  have HLL := Lib.hid hll; clear hll
  go_enter Tryd.func11, Tryd.ntmps11
  go_wp2_with fail
  have HC0 := Lib.hid (CX.start w (N : Int) 25)
  have HB0 : Hid (Below w.heap.size w ((w.alloc (.cells #[.int .i64 0, .slice none 0 0, .slice none 0 0] 25)).alloc (.cells #[.int .i64 (N : Int), .slice none 0 0, .slice none 0 0] 25))) := ((Below.refl _ w).alloc (Nat.le_refl _) _).alloc (by simp) _
  go_loopw [8, 9, 10, 11] (fun i _ _ _ wr => ∃ (k : Nat) (u : Value) (ps : List (Int × Int)), 2 * k ≤ m + 1 ∧ i = .int .i64 ((2 * k : Nat) : Int) ∧ CX wr w.heap.size (N : Int) u (.slice none 0 0) ∧ wr.ownsRow (w.heap.size + 2) 59 2 u k (ps.flatMap pcells) ∧ Below w.heap.size w wr ∧ ps.length = k ∧ Hid (∀ j, j < ps.length → okP N j (ps.getD j (0, 0)) = true)) (fun i _ _ _ _ => m + 2 - (intOf i).toNat)
  case atStart => exact ⟨0, _, [], by omega, rfl, HC0.out, World.ownsRow_nil _ _ _ _, HB0.out, rfl, fun j hj => absurd hj (Nat.not_lt_zero _)⟩
  case round =>
    obtain ⟨k, u, ps, hk, rfl, hcx, hrow, hbr, hpl, HQ⟩ := hrel
    clear HC0 HB0
    obtain ⟨au, cu, rfl, hcu1, hcu2⟩ := row_shape hrow
    have HCX := Lib.hid hcx
    have hsz := hcx.sz
    obtain ⟨d0, d1, d2, df, _, _, _, _, _⟩ := hcx
    by_cases hlt : 2 * k + 1 < m
    · obtain ⟨q, off, ha, hql, hcl⟩ := HU.out.resolve_left (by omega)
      subst ha
      have y0 := (hbr.cell (p := ⟨q, off + 2 * k, none⟩) hql).trans (hcl (2 * k) (by omega))
      have y1 := (hbr.cell (p := ⟨q, off + (2 * k + 1), none⟩) hql).trans (hcl (2 * k + 1) hlt)
      obtain ⟨b1, b2⟩ := HLB.out (2 * k) (by omega)
      obtain ⟨b3, b4⟩ := HLB.out (2 * k + 1) hlt
      clear hcl
      generalize ls.getD (2 * k) 0 = a at *
      generalize ls.getD (2 * k + 1) 0 = b at *
      have NA := Lib.hid (number_any a (2 * ((N : Int) + (k : Int) + 1)) wr (by omega) (by omega) b1 b2)
      have NB := Lib.hid (number_any b (2 * ((N : Int) + (k : Int) + 1)) wr (by omega) (by omega) b3 b4)
      have HOK := Lib.hid (okP_mod N k a b)
      generalize a % (2 * ((N : Int) + (k : Int) + 1)) = x at *
      generalize b % (2 * ((N : Int) + (k : Int) + 1)) = y at *
      have HBR := Lib.hid hbr
      have HF : Hid (∀ (x y : Int) v' w2, okP N k (x, y) = true → w2.ownsRow (w.heap.size + 2) 59 2 v' (k + 1) (ps.flatMap pcells ++ pcells (x, y)) → App (w.heap.size + 2) wr w2 (.slice au k cu) v' → CX (w2.setCell ⟨w.heap.size + 1, 1, none⟩ v') w.heap.size (N : Int) v' (.slice none 0 0) ∧ (w2.setCell ⟨w.heap.size + 1, 1, none⟩ v').ownsRow (w.heap.size + 2) 59 2 v' (k + 1) ((ps ++ [(x, y)]).flatMap pcells) ∧ Below w.heap.size w (w2.setCell ⟨w.heap.size + 1, 1, none⟩ v') ∧ (ps ++ [(x, y)]).length = k + 1 ∧ Hid (∀ j, j < (ps ++ [(x, y)]).length → okP N j ((ps ++ [(x, y)]).getD j (0, 0)) = true)) := fun x y v' w2 hx hown hap =>
        ⟨(HCX.out.below hap.below).set1 v', ownsRow_setCell_below (by simpa using hown) (a := ⟨w.heap.size + 1, 1, none⟩) (Nat.lt_succ_self _) _, (HBR.out.trans (hap.below.mono (by omega))).setCell (by simp) _, by simp [hpl], okA_snoc HQ.out (by rw [hpl]; exact hx)⟩
      have HKB : Hid (∀ w2 v', App (w.heap.size + 2) wr w2 (.slice au k cu) v' → w2.cell? ⟨w.heap.size + 1, 1, none⟩ = some (.slice au k cu) ∧ ∀ k, w2.frozen? ⟨w.heap.size + 1, k, none⟩ = false) := fun w2 v' hap => ⟨(HCX.out.below hap.below).c1, (HCX.out.below hap.below).fr⟩
      have hk2 : k < 1000 := by omega
      clear hbr HU HV HLB HOB b1 b2 b3 b4 HQ hpl
      go_wp2_with fail
      refine NA.out.mono ?_
      rintro e w' ⟨rfl, rfl⟩
      go_wp2_with fail
      refine NB.out.mono ?_
      rintro e w' ⟨rfl, rfl⟩
      have H3 : (y < x ∧ ¬ x < y ∧ max x y = x ∧ min x y = y) ∨ (x < y ∧ ¬ y < x ∧ max x y = y ∧ min x y = x) ∨ x = y := by omega
      rcases H3 with ⟨h1, h2, e1, e2⟩ | ⟨h1, h2, e1, e2⟩ | rfl
      · rw [e1, e2] at HOK
        clear e1 e2
        have HFF := Lib.hid (fun v' w2 => HF.out x y v' w2 HOK.out)
        clear HF HOK
        go_wp2_with (at_builtin; refine wpList_appS 22 59 _ 2 16 Tryd.underlying22 infoA rfl (by decide) (by decide) rfl _ _ rfl wr (w.heap.size + 2) _ k (ps.flatMap pcells) (pcells (x, y)) (pcells_one _) rfl hrow hsz (by omega) _ rfl rfl rfl ?_; intro v' w2 hown2 hap; obtain ⟨e1, ef⟩ := HKB.out w2 v' hap; obtain ⟨a', c', rfl, _, _⟩ := row_shape hown2)
        go_roundw
        case rel =>
          obtain ⟨f1, f2, f3, f4, f5⟩ := HFF.out _ w2 hown2 hap
          exact ⟨k + 1, _, _, by omega, by go_num, f1, f2, f3, f4, f5⟩
        case measure => simp [intOf]; omega
      · rw [e1, e2] at HOK
        clear e1 e2
        have HFF := Lib.hid (fun v' w2 => HF.out y x v' w2 HOK.out)
        clear HF HOK
        go_wp2_with (at_builtin; refine wpList_appS 22 59 _ 2 16 Tryd.underlying22 infoA rfl (by decide) (by decide) rfl _ _ rfl wr (w.heap.size + 2) _ k (ps.flatMap pcells) (pcells (y, x)) (pcells_one _) rfl hrow hsz (by omega) _ rfl rfl rfl ?_; intro v' w2 hown2 hap; obtain ⟨e1, ef⟩ := HKB.out w2 v' hap; obtain ⟨a', c', rfl, _, _⟩ := row_shape hown2)
        go_roundw
        case rel =>
          obtain ⟨f1, f2, f3, f4, f5⟩ := HFF.out _ w2 hown2 hap
          exact ⟨k + 1, _, _, by omega, by go_num, f1, f2, f3, f4, f5⟩
        case measure => simp [intOf]; omega
      · rw [show max x x = x by omega, show min x x = x by omega] at HOK
        have h1 : ¬ x < x := Int.lt_irrefl x
        have HFF := Lib.hid (fun v' w2 => HF.out x x v' w2 HOK.out)
        clear HF HOK
        go_wp2_with (at_builtin; refine wpList_appS 22 59 _ 2 16 Tryd.underlying22 infoA rfl (by decide) (by decide) rfl _ _ rfl wr (w.heap.size + 2) _ k (ps.flatMap pcells) (pcells (x, x)) (pcells_one _) rfl hrow hsz (by omega) _ rfl rfl rfl ?_; intro v' w2 hown2 hap; obtain ⟨e1, ef⟩ := HKB.out w2 v' hap; obtain ⟨a', c', rfl, _, _⟩ := row_shape hown2)
        go_roundw
        case rel =>
          obtain ⟨f1, f2, f3, f4, f5⟩ := HFF.out _ w2 hown2 hap
          exact ⟨k + 1, _, _, by omega, by go_num, f1, f2, f3, f4, f5⟩
        case measure => simp [intOf]; omega
    · rename World => wq
      have hub : Hid (∀ i ∈ rowB (.slice au k cu), i < wq.heap.size) := rowB_lt hrow
      have hrq : w.heap.size + 2 ≤ wq.heap.size := HCX.out.sz
      have HBQ := Lib.hid hbr
      have HROW := Lib.hid hrow
      have hk2 : N + k ≤ 1000 := by omega
      clear hbr hrow
      have HKM : Hid (k ≤ m) := by unfold Hid; omega
      go_wp2_with fail
      clear d0 d1 d2 df hlt hk
      generalize ((2 * k : Nat) : Int) = z12 at *
      generalize 2 * (k : Int) = z13 at *
      go_loopw [12] (fun i wr2 => ∃ (t : Nat) (o : Value) (xs : List Int), t ≤ l ∧ i = .int .i64 t ∧ CX wr2 w.heap.size (N : Int) (.slice au k cu) o ∧ wr2.ownsRow wq.heap.size 3 1 o t (xs.map (Value.int .i64)) ∧ wr2.ownsRow (w.heap.size + 2) 59 2 (.slice au k cu) k (ps.flatMap pcells) ∧ Below w.heap.size w wr2 ∧ wq.heap.size ≤ wr2.heap.size ∧ xs.length = t ∧ Hid (∀ o ∈ xs, okO (N + k) o = true)) (fun i _ => l - (intOf i).toNat)
      case atStart => exact ⟨0, _, [], Nat.zero_le _, rfl, HCX.out, World.ownsRow_nil _ _ _ _, HROW.out, HBQ.out, Nat.le_refl _, rfl, fun o h => by cases h⟩
      case round =>
        obtain ⟨t, o, xs, ht, rfl, hcx, hown, hrow2, hbr, hsq, hxl, HX⟩ := hrel
        clear HCX HROW
        obtain ⟨ao, co, rfl, hco1, hco⟩ := own_shape hown
        unfold maxLen at hco
        have HCY := Lib.hid hcx
        by_cases hlt2 : t < l
        · obtain ⟨q, off, ha, hql, hcl⟩ := HV.out.resolve_left (by omega)
          subst ha
          have y0 := (hbr.cell (p := ⟨q, off + t, none⟩) hql).trans (hcl t hlt2)
          have hq0 := hcl t hlt2
          obtain ⟨b1, b2⟩ := HOB.out t hlt2
          clear hcl
          generalize os.getD t 0 = a at *
          have HOK := Lib.hid (okO_mod N k a)
          have NA := Lib.hid (number_any a (2 * ((N : Int) + (k : Int) + 1)) wr.drew (by omega) (by omega) b1 b2)
          generalize a % (2 * ((N : Int) + (k : Int) + 1)) = z at *
          have hBA : Below wr.heap.size wr (wr.drew.alloc (.cells #[.int .i64 z] 3)) := ((Below.refl _ _).drew).alloc (Nat.le_refl _) _
          have HOW := Lib.hid (own_keep hown hBA)
          have HSA : Hid (wq.heap.size ≤ (wr.drew.alloc (.cells #[.int .i64 z] 3)).heap.size) := Nat.le_trans hsq hBA.size
          have HF : Hid (∀ o' w6, w6.ownsRow wq.heap.size 3 1 o' (t + 1) (xs.map (Value.int .i64) ++ [.int .i64 z]) → App wq.heap.size (wr.drew.alloc (.cells #[.int .i64 z] 3)) w6 (.slice ao t co) o' → (w6.cell? ⟨w.heap.size + 1, 2, none⟩ = some (.slice ao t co) ∧ (∀ k, w6.frozen? ⟨w.heap.size + 1, k, none⟩ = false) ∧ w6.cell? ⟨w.heap.size + 1, 1, none⟩ = some (.slice au k cu) ∧ w6.cell? ⟨q, off + t, none⟩ = some (.int .i64 a)) ∧ ((w6.setCell ⟨w.heap.size + 1, 2, none⟩ o').cell? ⟨w.heap.size + 1, 1, none⟩ = some (.slice au k cu) ∧ (w6.setCell ⟨w.heap.size + 1, 2, none⟩ o').cell? ⟨q, off + t, none⟩ = some (.int .i64 a)) ∧ CX (w6.setCell ⟨w.heap.size + 1, 2, none⟩ o') w.heap.size (N : Int) (.slice au k cu) o' ∧ (w6.setCell ⟨w.heap.size + 1, 2, none⟩ o').ownsRow wq.heap.size 3 1 o' (t + 1) ((xs ++ [z]).map (Value.int .i64)) ∧ (w6.setCell ⟨w.heap.size + 1, 2, none⟩ o').ownsRow (w.heap.size + 2) 59 2 (.slice au k cu) k (ps.flatMap pcells) ∧ Below w.heap.size w (w6.setCell ⟨w.heap.size + 1, 2, none⟩ o') ∧ wq.heap.size ≤ (w6.setCell ⟨w.heap.size + 1, 2, none⟩ o').heap.size ∧ (xs ++ [z]).length = t + 1 ∧ Hid (∀ o ∈ xs ++ [z], okO (N + k) o = true)) := fun o' w6 hown6 hap => by
            have hA : Below (w.heap.size + 2) wr w6 := (hBA.mono HCY.out.sz).trans (hap.below.mono hrq)
            have hc6 := HCY.out.below hA
            have hr6 := own_chg (own_keep hrow2 hBA) (Chg.app (S := rowB (.slice ao t co)) hap fun i hi => mem_rowB.2 hi) fun i hi hm => absurd (hub.out i (mem_rowB.2 hi)) (Nat.not_lt.2 (hown.lt i (mem_rowB.1 hm)).1)
            have hy6 := ((hbr.trans (hA.mono (by omega))).cell (p := ⟨q, off + t, none⟩) hql).trans hq0
            refine ⟨⟨hc6.c2, hc6.fr, hc6.c1, hy6⟩, ⟨(hc6.set2 o').c1, (World.cell?_setCell_other (w := w6) (h := fun e => by injection e with e1 _; omega) ..).trans hy6⟩, hc6.set2 o', ownsRow_setCell_below (by rw [List.map_append]; exact hown6) (a := ⟨w.heap.size + 1, 2, none⟩) (by show w.heap.size + 1 < wq.heap.size; omega) _, ownsRow_setCell_below hr6 (a := ⟨w.heap.size + 1, 2, none⟩) (Nat.lt_succ_self _) _, (hbr.trans (hA.mono (by omega))).setCell (by simp) _, ?_, by simp [hxl], ?_⟩
            · have := hap.below.size; have := HSA.out; simp; omega
            · intro o ho
              rcases List.mem_append.1 ho with h | h
              · exact HX.out o h
              · rw [List.mem_singleton] at h; subst h; exact HOK.out
          have HSS : Hid (∀ W, Below wr.heap.size wr W → W.cell? ⟨w.heap.size + 1, 1, none⟩ = some (.slice au k cu) ∧ W.cell? ⟨w.heap.size + 1, 2, none⟩ = some (.slice ao t co) ∧ W.cell? ⟨q, off + t, none⟩ = some (.int .i64 a)) := fun W h => ⟨(HCY.out.below (h.mono HCY.out.sz)).c1, (HCY.out.below (h.mono HCY.out.sz)).c2, (h.cell (p := ⟨q, off + t, none⟩) (World.block_lt_of_cell? _ _ y0)).trans y0⟩
          have HS0 := Lib.hid (HSS.out _ (Below.refl _ _))
          have HS1 := Lib.hid (HSS.out _ (Below.refl _ _).drew)
          have HS2 := Lib.hid (HSS.out _ hBA)
          clear hcx hown hrow2 hBA y0 hq0 b1 b2 HV HU HLB HOB HX HQ
          have q1 : IntKind.i64.wrap ((N : Int) + (k : Int)) = (N : Int) + (k : Int) := IntWalk.i64_in _ (by omega)
          have q2 : IntKind.i64.wrap ((N : Int) + (k : Int) + 1) = (N : Int) + (k : Int) + 1 := IntWalk.i64_in _ (by omega)
          have q3 : IntKind.i64.wrap (2 * ((N : Int) + (k : Int) + 1)) = 2 * ((N : Int) + (k : Int) + 1) := IntWalk.i64_in _ (by omega)
          go_wp2_with fail
          obtain ⟨k1, k2, k3⟩ := HS1.out
          obtain ⟨k4, k5, k6⟩ := HS2.out
          have HK1 := Lib.hid (And.intro k1 k3)
          have HK2 := Lib.hid (And.intro k4 k6)
          have HK0 := Lib.hid (And.intro HS0.out.1 HS0.out.2.2)
          have k7 : ((wr.alloc (.cells #[.int .i64 z] 3)).drew).cell? ⟨w.heap.size + 1, 2, none⟩ = some (.slice ao t co) := k5
          have hsz7 : w.heap.size + 1 < wr.heap.size := by have := HCY.out.sz; omega
          rw [← ldMk_eq]
          have hld := ldMk_eq
          clear k1 k3 k4 k6
          go_region_held3 (fun W => W.cell? ⟨w.heap.size + 1, 1, none⟩ = some (.slice au k cu) ∧ W.cell? ⟨q, off + t, none⟩ = some (.int .i64 a)) (first | (with_reducible exact HK1.out) | (with_reducible exact HK0.out) | (with_reducible exact HK2.out) | (with_reducible exact HP6.out) | (with_reducible exact HP7.out) | (exact HK2.out) | (exact HK1.out)) (first
            | (refine step_ldMk rfl rfl _ (w.heap.size + 1) 2 (.slice ao t co) rfl (by first | exact k2 | exact k5 | exact k7) ?_)
            | (go_simp; go_at_call 12; refine NA.out.mono ?_; rintro e w' ⟨rfl, rfl⟩)
            | (refine step_appC 23 3 _ 1 8 Tryd.underlying23 infoInt rfl (by decide) (by decide) rfl _ _ rfl _ wq.heap.size (.slice ao t co) t (xs.map (Value.int .i64)) (some ⟨wr.heap.size, 0, none⟩) 1 1 [.int .i64 z] HOW.out HSA.out (by omega) rfl (.inr ⟨_, rfl, lit_cells wr.drew z⟩) (lit_one z) rfl rfl ?_; intro o6 w6 hown6 hap6; obtain ⟨⟨e2, ef, e1, e0⟩, hl7, hf6⟩ := HF.out o6 w6 hown6 hap6; have HP6 := Lib.hid (And.intro e1 e0); have HF6 := Lib.hid hf6; obtain ⟨a6, c6, rfl, _, _⟩ := own_shape hown6; have HP7 := Lib.hid hl7; clear hown6 hap6 hf6 hl7 e1 e0))
          all_goals
            clear hld
            go_wp2_with fail
            go_roundw
          all_goals first
            | (obtain ⟨f1, f2, f3, f4, f5, f6, f7⟩ := HF6.out; exact ⟨t + 1, _, _, by omega, by go_num, f1, f2, f3, f4, f5, f6, f7⟩)
            | (simp [intOf]; omega)
        · have htl : l = t := by omega
          have HFIN : Hid (∀ r0 r1 r2, MkPost w N m l (.returned (circV (N : Int) (.slice au k cu) (.slice ao t co))) (((wr.setCell ⟨w.heap.size, 0, none⟩ r0).setCell ⟨w.heap.size, 1, none⟩ r1).setCell ⟨w.heap.size, 2, none⟩ r2)) := fun r0 r1 r2 => by
            refine ⟨⟨_, _, ps, xs, rfl, own_prow (cir_set (w := w) (own_base hrow2 (by omega)) r0 r1 r2), ?_, mk_right (by omega) HQ.out (by rw [hpl]; exact HX.out), by rw [hpl]; exact HKM.out, by omega, okP_in (by omega) HQ.out, okO_in (by omega) HX.out⟩, ((hbr.setCell (by simp) _).setCell (by simp) _).setCell (by simp) _⟩
            exact own_row (cir_set (w := w) (own_base hown (by omega)) r0 r1 r2)
          obtain ⟨d0, d1, d2, df, g0, g1, g2, gf, _⟩ := hcx
          clear hown hrow2 hbr
          go_wp2_with fail
          exact bodyPost_ret (v := circV (N : Int) (.slice au k cu) (.slice ao t co)) (by first | (simp [results, Tryd.results11, go_sem, circV, g0, g1, g2]; done)) rfl (HFIN.out _ _ _)
end Go.Proofs.YtmgepagdkfghlaaDoor
