/- The contract of slow.after: a clause's literals behind the known ones, as two masks. Conditions: the slice reads as 64-bit ints, none the least; the variables behind the known ones are few. -/
import Derived.Test.YtcodmijphejfdaaDoorTab
import Derived.Test.YtcodmijphejfdaaDoorBlkM
import Derived.BigQuiet
import Derived.IntWalk
import Derived.Deep.RegionWith
namespace Go.Proofs.YtcodmijphejfdaaDoor
open Go.RowKit

theorem getD_memL (l : List Int) (j : Nat) (h : j < l.length) : l.getD j 0 ∈ l := by simp [List.getD, h]
/-- The two masks in the block q, and the block ahead of it. -/
def AftC (W : World) (q : Nat) (P M : Nat) : Prop :=
  W.cell? ⟨q + 1, 0, none⟩ = some (.int .i64 (P : Int)) ∧ W.cell? ⟨q + 1, 1, none⟩ = some (.int .i64 (M : Int)) ∧ W.cell? ⟨q, 0, none⟩ = some (.int .i64 0) ∧ W.cell? ⟨q, 1, none⟩ = some (.int .i64 0) ∧ (∀ j, W.frozen? ⟨q, j, none⟩ = false) ∧ (∀ j, W.frozen? ⟨q + 1, j, none⟩ = false)
theorem AftC.setP {W : World} {q P M : Nat} (h : AftC W q P M) (P' : Nat) : AftC (W.setCell ⟨q + 1, 0, none⟩ (.int .i64 (P' : Int))) q P' M := by
  obtain ⟨h1, h2, h3, h4, h5, h6⟩ := h
  have o : ∀ b j, (b ≠ q + 1 ∨ j ≠ 0) → (W.setCell ⟨q + 1, 0, none⟩ (.int .i64 (P' : Int))).cell? ⟨b, j, none⟩ = W.cell? ⟨b, j, none⟩ := fun b j h => World.cell?_setCell_other _ _ _ _ (fun e => by injection e with e1 e2; omega)
  exact ⟨World.cell?_setCell_same _ _ _ h1, (o _ _ (by omega)).trans h2, (o _ _ (by omega)).trans h3, (o _ _ (by omega)).trans h4, fun j => (World.frozen?_setCell _ _ _ _).trans (h5 j), fun j => (World.frozen?_setCell _ _ _ _).trans (h6 j)⟩
theorem AftC.setM {W : World} {q P M : Nat} (h : AftC W q P M) (M' : Nat) : AftC (W.setCell ⟨q + 1, 1, none⟩ (.int .i64 (M' : Int))) q P M' := by
  obtain ⟨h1, h2, h3, h4, h5, h6⟩ := h
  have o : ∀ b j, (b ≠ q + 1 ∨ j ≠ 1) → (W.setCell ⟨q + 1, 1, none⟩ (.int .i64 (M' : Int))).cell? ⟨b, j, none⟩ = W.cell? ⟨b, j, none⟩ := fun b j h => World.cell?_setCell_other _ _ _ _ (fun e => by injection e with e1 e2; omega)
  exact ⟨(o _ _ (by omega)).trans h1, World.cell?_setCell_same _ _ _ h2, (o _ _ (by omega)).trans h3, (o _ _ (by omega)).trans h4, fun j => (World.frozen?_setCell _ _ _ _).trans (h5 j), fun j => (World.frozen?_setCell _ _ _ _).trans (h6 j)⟩
theorem pow_lt20 (i : Nat) (h : i ≤ 19) : 2 ^ i < 1048576 := Nat.lt_of_le_of_lt (Nat.pow_le_pow_right (by omega) h) (by decide)
theorem shl_one (i : Nat) (h : i ≤ 20) : IntKind.i64.wrap ((1 : Int) * 2 ^ i) = ((2 ^ i : Nat) : Int) := by
  have h1 : 2 ^ i ≤ 1048576 := Nat.le_trans (Nat.pow_le_pow_right (by omega) h) (by decide)
  rw [IntKind.wrap_i64, show ((2 : Int) ^ i) = ((2 ^ i : Nat) : Int) by simp]
  generalize 2 ^ i = t at *
  omega

set_option maxRecDepth 4000 in
set_option maxHeartbeats 4000000 in
theorem after_any (v : Value) (cs : List Int) (kn : Nat) (w : World) (hv : Row w v cs) (hb : InW cs) (hk : kn ≤ 1000000) (hp : ∀ l ∈ cs, plc l ≤ kn + 20) :
    Calls Tryd.prog 57 #[v, .int .i64 (kn : Int)] w fun e w' => e = .returned (.agg #[.int .i64 ((afterM kn cs).1 : Int), .int .i64 ((afterM kn cs).2 : Int)]) ∧ Below w.heap.size w w' := by
  obtain ⟨a, c, rfl, hc1, hc2, hr⟩ := hv
  unfold maxLen at hc2
  have HR := Lib.hid hr; clear hr
  have HW := Lib.hid hb
  have HP : Hid (∀ k, k < cs.length → plc (cs.getD k 0) ≤ kn + 20) := fun k hk => hp _ (getD_memL _ k hk)
  have HT : Hid (∀ k, k < cs.length → afterM kn (cs.take (k + 1)) = stepM kn (afterM kn (cs.take k)) (cs.getD k 0)) := fun k hk => by
    rw [take_snoc cs k hk, afterM_snoc]
  have HL : Hid (∀ k, (afterM kn (cs.take k)).1 < 1048576 ∧ (afterM kn (cs.take k)).2 < 1048576) := fun k => afterM_lt (m := 20) fun l hl => hp l (List.mem_of_mem_take hl)
  have HE : Hid (afterM kn (cs.take cs.length) = afterM kn cs) := by rw [List.take_length]; rfl
  clear hb hp
  generalize hN : cs.length = m at *
  have HN := Lib.hid hN; clear hN
  have HB0 : Hid (∀ o1 o2 W, Below w.heap.size ((w.alloc o1).alloc o2) W → Below w.heap.size w W) := fun o1 o2 W h => (((Below.refl _ w).alloc (Nat.le_refl _) _).alloc (by simp) _).trans (h.mono (by omega))
  have HC0 : Hid (AftC ((w.alloc (.cells #[.int .i64 0, .int .i64 0] 104)).alloc (.cells #[.int .i64 0, .int .i64 0] 104)) w.heap.size 0 0) := by
    have hA : Below (w.alloc (.cells #[.int .i64 0, .int .i64 0] 104)).heap.size (w.alloc (.cells #[.int .i64 0, .int .i64 0] 104)) ((w.alloc (.cells #[.int .i64 0, .int .i64 0] 104)).alloc (.cells #[.int .i64 0, .int .i64 0] 104)) := (Below.refl _ _).alloc (Nat.le_refl _) _
    have h1 := cells2 w _ _ _ _ hA
    have h2 := cells2 (w.alloc (.cells #[.int .i64 0, .int .i64 0] 104)) _ _ _ _ (Below.refl ((w.alloc (.cells #[.int .i64 0, .int .i64 0] 104)).alloc (.cells #[.int .i64 0, .int .i64 0] 104)).heap.size _)
    rw [show (w.alloc (.cells #[.int .i64 0, .int .i64 0] 104)).heap.size = w.heap.size + 1 by simp] at h2
    obtain ⟨_, f1⟩ := bcell hA
    exact ⟨h2.1, h2.2, h1.1, h1.2, fun j => (f1 _ j (by simp)).trans (World.frozen?_alloc_at _ _ _ _ (by simp)), fun j => World.frozen?_alloc_at _ _ _ _ (by simp)⟩
  have hsz : ((w.alloc (.cells #[.int .i64 0, .int .i64 0] 104)).alloc (.cells #[.int .i64 0, .int .i64 0] 104)).heap.size = w.heap.size + 2 := by simp
  go_enter Tryd.func57, Tryd.ntmps57
  go_wp2_with fail
  have HBA := Lib.hid (fun W h => HB0.out (.cells #[.int .i64 0, .int .i64 0] 104) (.cells #[.int .i64 0, .int .i64 0] 104) W h)
  have HB1 := Lib.hid (HBA.out _ (Below.refl _ _))
  clear HB0
  generalize (w.alloc (.cells #[.int .i64 0, .int .i64 0] 104)).alloc (.cells #[.int .i64 0, .int .i64 0] 104) = w2 at *
  generalize hq : w.heap.size = q at *
  go_loopw [7, 8, 11, 26, 29] (fun _ _ i _ _ wr => ∃ (k P M : Nat), k ≤ m ∧ i = .int .i64 k ∧ Hid (afterM kn (cs.take k) = (P, M)) ∧ AftC wr q P M ∧ Below q w wr ∧ q + 2 ≤ wr.heap.size) (fun _ _ i _ _ _ => m - (intOf i).toNat)
  case atStart => exact ⟨0, 0, 0, Nat.zero_le _, rfl, rfl, HC0.out, HB1.out, by omega⟩
  case round =>
    obtain ⟨k, P, M, hk, rfl, HPM, hAC, hbr, hszr⟩ := hrel
    have HAC := Lib.hid hAC
    obtain ⟨x1, x2, x3, x4, x5, x6⟩ := hAC
    by_cases hlt : k < m
    · obtain ⟨b, off, ha, hb, hc⟩ := HR.out.resolve_left (by omega)
      subst ha
      have g1 := (hbr.cell (p := ⟨b, off + k, none⟩) hb).trans (hc k hlt)
      obtain ⟨q1, q2⟩ := HW.out.get k
      have HPK := HP.out k hlt
      have HTK := Lib.hid (HT.out k hlt)
      have HLK := HL.out k
      rw [HPM.out] at HTK HLK
      obtain ⟨hP, hM⟩ : P < 1048576 ∧ M < 1048576 := HLK
      clear hc
      generalize cs.getD k 0 = l at *
      have HV := Lib.hid (fun W => var_any l W q1 q2)
      have hpl := plc_absI l
      have HBR := Lib.hid hbr
      clear hbr
      have HST : Hid (stepM kn (P, M) l = if plc l ≤ kn then (P, M) else if 0 < l then (P ||| 2 ^ (plc l - kn - 1), M) else (P, M ||| 2 ^ (plc l - kn - 1))) := rfl
      generalize plc l = p at *
      rw [← hpl] at HV
      clear hpl
      by_cases hkn : p ≤ kn
      · have hd1 : decide ((p : Int) - (kn : Int) - 1 < 0) = true := decide_eq_true (by omega)
        have HX : Hid (afterM kn (cs.take (k + 1)) = (P, M)) := by rw [HTK.out, HST.out, if_pos hkn]; rfl
        clear HST HTK
        go_wp2_with (go_at_call 33; refine (HV.out _).mono ?_; rintro e w' ⟨rfl, rfl⟩)
        go_roundw
        case rel => exact ⟨k + 1, P, M, by omega, by go_num, HX.out, HAC.out, HBR.out, hszr⟩
        case measure => simp [intOf]; omega
      · have hd1 : decide ((p : Int) - (kn : Int) - 1 < 0) = false := decide_eq_false (by omega)
        obtain ⟨i, rfl⟩ : ∃ i, p = kn + 1 + i := ⟨p - kn - 1, by omega⟩
        have hi : i ≤ 19 := by omega
        have hpi : ((kn + 1 + i : Nat) : Int) - (kn : Int) - 1 = (i : Int) := by omega
        rw [hpi] at hd1
        have HSH := shl_one i (by omega)
        by_cases hl0 : 0 < l
        · have hd2 : decide (0 < l) = true := decide_eq_true hl0
          have HX : Hid (afterM kn (cs.take (k + 1)) = (P ||| 2 ^ i, M)) := by rw [HTK.out, HST.out, if_neg hkn, if_pos hl0, show kn + 1 + i - kn - 1 = i by omega]; rfl
          clear HST HTK
          go_wp2_with (go_at_call 33; refine (HV.out _).mono ?_; rintro e w' ⟨rfl, rfl⟩)
          go_region
          all_goals go_wp2_with fail
          all_goals
            have hval : bits .or .i64 (P : Int) (wrap64 (2 ^ (kn + 1 + i - kn - 1))) = ((P ||| 2 ^ i : Nat) : Int) := by
              rw [show kn + 1 + i - kn - 1 = i by omega]
              have h1 : wrap64 (2 ^ i) = ((2 ^ i : Nat) : Int) := by have := HSH; rw [Int.one_mul] at this; rw [IntKind.wrap_i64] at this; unfold wrap64; exact this
              rw [h1, bits_or_i64 _ _ (by omega) (Nat.lt_of_lt_of_le (pow_lt20 i hi) (by decide))]
            refine ⟨⟨k + 1, P ||| 2 ^ i, M, by omega, by go_num, HX.out, ?_, ?_, ?_⟩, by simp [intOf]; omega⟩
            · rw [hval]; first | exact HAC.out.setP _ | exact (HAC.out.setP _)
            · first | exact (HBR.out.setCell (by show q ≤ q + 1; omega) _).drew | exact (HBR.out.setCell (by show q ≤ q + 1; omega) _)
            · simp [World.setCell, World.drew]; omega
        · have hd2 : decide (0 < l) = false := decide_eq_false hl0
          have HX : Hid (afterM kn (cs.take (k + 1)) = (P, M ||| 2 ^ i)) := by rw [HTK.out, HST.out, if_neg hkn, if_neg hl0, show kn + 1 + i - kn - 1 = i by omega]; rfl
          clear HST HTK
          go_wp2_with (go_at_call 33; refine (HV.out _).mono ?_; rintro e w' ⟨rfl, rfl⟩)
          go_region
          all_goals go_wp2_with fail
          all_goals
            have hval : bits .or .i64 (M : Int) (wrap64 (2 ^ (kn + 1 + i - kn - 1))) = ((M ||| 2 ^ i : Nat) : Int) := by
              rw [show kn + 1 + i - kn - 1 = i by omega]
              have h1 : wrap64 (2 ^ i) = ((2 ^ i : Nat) : Int) := by have := HSH; rw [Int.one_mul] at this; rw [IntKind.wrap_i64] at this; unfold wrap64; exact this
              rw [h1, bits_or_i64 _ _ (by omega) (Nat.lt_of_lt_of_le (pow_lt20 i hi) (by decide))]
            refine ⟨⟨k + 1, P, M ||| 2 ^ i, by omega, by go_num, HX.out, ?_, ?_, ?_⟩, by simp [intOf]; omega⟩
            · rw [hval]; first | exact HAC.out.setM _ | exact (HAC.out.setM _)
            · first | exact (HBR.out.setCell (by show q ≤ q + 1; omega) _).drew | exact (HBR.out.setCell (by show q ≤ q + 1; omega) _)
            · simp [World.setCell, World.drew]; omega
    · have hkm : k = m := by omega
      subst hkm
      have HX : Hid (afterM kn cs = (P, M)) := HE.out.symm.trans HPM.out
      have x50 := x5 0
      have x51 := x5 1
      clear HPM HP HT HL
      have HBR := Lib.hid hbr
      go_wp2_with fail
      have c0 := World.cell?_setCell_same wr ⟨q, 0, none⟩ (.int .i64 (P : Int)) x3
      have c1 := World.cell?_setCell_same (wr.setCell ⟨q, 0, none⟩ (.int .i64 (P : Int))) ⟨q, 1, none⟩ (.int .i64 (M : Int)) ((World.cell?_setCell_other _ _ _ _ (fun e => by injection e with e1 e2; omega)).trans x4)
      have c2 : ((wr.setCell ⟨q, 0, none⟩ (.int .i64 (P : Int))).setCell ⟨q, 1, none⟩ (.int .i64 (M : Int))).cell? ⟨q, 0, none⟩ = some (.int .i64 (P : Int)) := (World.cell?_setCell_other _ _ _ _ (fun e => by injection e with e1 e2; omega)).trans c0
      refine bodyPost_ret (v := .agg #[.int .i64 (P : Int), .int .i64 (M : Int)]) (by simp [results, Tryd.results57, go_sem, c1, c2]) rfl ⟨by rw [HX.out], ?_⟩
      rw [hq]
      exact (HBR.out.setCell (Nat.le_refl _) _).setCell (Nat.le_refl _) _
end Go.Proofs.YtcodmijphejfdaaDoor
