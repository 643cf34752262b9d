/- Contracts of the document's own skolemref.SameBlock, SameBlocks, SameFormula at the same blocks and clauses: true. Conditions: both sides read as these. -/
import Derived.Test.YtcodmijphejfdaaDoorBlkM
import Derived.Test.YtcodmijphejfdaaDoorSameCl
namespace Go.Proofs.YtcodmijphejfdaaDoor
open Go.RowKit

set_option maxHeartbeats 2000000 in
theorem sameBlock_yes (e : Bool) (v u : Value) (l : List Int) (w : World) (hv : Row w v l) (hu : Row w u l) :
    Calls Tryd.prog 39 #[.agg #[.bool e, v], .agg #[.bool e, u]] w fun r w' => r = .returned (.bool true) ∧ Below w.heap.size w w' := by
  have HB := Lib.hid (fun o1 o2 => show Below w.heap.size w ((w.alloc o1).alloc o2) from ((Below.refl _ w).alloc (Nat.le_refl _) _).alloc (by simp) _)
  have HS := Lib.hid (fun W (hW : Below w.heap.size w W) => sameInts_any v u l l W (hv.keep hW) (hu.keep hW))
  obtain ⟨av, cv, rfl, _⟩ := hv
  obtain ⟨au, cu, rfl, _⟩ := hu
  have hd : decide (l = l) = true := by simp
  rw [hd] at HS
  clear hd
  have hee : (e == e) = true := by simp
  generalize l.length = n at *
  go_enter Tryd.func39, Tryd.ntmps39
  go_wp2_with (go_at_call 11; refine (HS.out _ (HB.out _ _)).mono ?_; rintro e2 w2 ⟨rfl, hw2⟩)
  go_ret
  exact ⟨rfl, (HB.out _ _).trans ((below_draws hw2).mono (by simp; omega))⟩

set_option maxHeartbeats 2000000 in
theorem sameBlocks_yes (a a' : Option Addr) (c c' : Nat) (bs : List Blk) (w : World) (hv : BRowsAt w a c bs) (hu : BRowsAt w a' c' bs) :
    Calls Tryd.prog 14 #[.slice a bs.length c, .slice a' bs.length c'] w fun e w' => e = .returned (.bool true) ∧ Below w.heap.size w w' := by
  obtain ⟨h1, h2, h3⟩ := hv
  obtain ⟨h4, h5, h6⟩ := hu
  unfold maxLen at h2 h5
  have h1c : ((bs.length : Int) != bs.length) = false := by simp
  have HV := Lib.hid h3; clear h3
  have HU := Lib.hid h6; clear h6
  generalize hn : bs.length = n at *
  clear hn
  go_enter Tryd.func14, Tryd.ntmps14
  go_wp2_with fail
  go_loopw [5] (fun i wr => ∃ k : Nat, k ≤ n ∧ i = .int .i64 k ∧ Below w.heap.size w wr) (fun i _ => n - (intOf i).toNat)
  case atStart => exact ⟨0, Nat.zero_le _, rfl, Below.refl _ _⟩
  case round =>
    obtain ⟨k, hk, rfl, hbr⟩ := hrel
    by_cases hlt : k < n
    · obtain ⟨b, off, e1, hb, hc⟩ := HV.out.resolve_left (by omega)
      obtain ⟨b', off', e2, hb', hc'⟩ := HU.out.resolve_left (by omega)
      subst e1; subst e2
      obtain ⟨q1, v, g1, r1⟩ := hc k hlt
      obtain ⟨q2, u, g2, r2⟩ := hc' k hlt
      have q1' := (hbr.cell (p := ⟨b, off + k * 2, none⟩) hb).trans q1
      have q2' := (hbr.cell (p := ⟨b', off' + k * 2, none⟩) hb').trans q2
      have g1' := (hbr.cell (p := ⟨b, off + k * 2 + 1, none⟩) hb).trans g1
      have g2' := (hbr.cell (p := ⟨b', off' + k * 2 + 1, none⟩) hb').trans g2
      have HS := Lib.hid (fun W (hW : Below w.heap.size w W) => sameBlock_yes (bs.getD k blk0).1 v u _ W (r1.keep hW) (r2.keep hW))
      obtain ⟨av, cv, rfl, _⟩ := r1
      obtain ⟨au, cu, rfl, _⟩ := r2
      have hkc : (k : Int) < n := by omega
      clear q1 q2 g1 g2 hc hc'
      generalize (bs.getD k blk0).2 = ys at *
      generalize (bs.getD k blk0).1 = ex at *
      generalize ys.length = m at *
      go_wp2_with fail
      go_region_with (go_at_call 39; refine (HS.out _ (by first | exact hbr | exact hbr.drew | exact below_drewN hbr _)).mono ?_; rintro e w2 ⟨rfl, hw2⟩; have hb2 := (show Below w.heap.size w _ by first | exact hbr.drew | exact hbr).trans (hw2.mono (by have := hbr.size; simpa using this)))
      all_goals
        clear hw2
        go_wp2_with fail
      all_goals exact ⟨⟨k + 1, by omega, by go_num, hb2⟩, by simp [intOf]; omega⟩
    · have hkn : k = n := by omega
      subst hkn
      go_wp2_with fail
      go_ret
      exact ⟨rfl, hbr⟩

end Go.Proofs.YtcodmijphejfdaaDoor
