/- Contracts of skolemref.SameClauses and SameCNF at the same lists: true. Conditions: both slices read as these clauses. -/
import Derived.Test.YtcodmijphejfdaaDoorClIG
import Derived.Test.YtcodmijphejfdaaDoorSameG
import Derived.Test.YtcodmijphejfdaaDoorRead
import Derived.Deep.RegionWith
namespace Go.Proofs.YtcodmijphejfdaaDoor
open Go.RowKit

set_option maxHeartbeats 2000000 in
theorem sameClauses_yes (a a' : Option Addr) (c c' : Nat) (xss : List (List Int)) (w : World) (hv : RowsAt w a c xss) (hu : RowsAt w a' c' xss) :
    Calls Tryd.prog 30 #[.slice a xss.length c, .slice a' xss.length c'] w fun e w' => e = .returned (.bool true) ∧ Below w.heap.size w w' := by
  obtain ⟨h1, h2, h3⟩ := hv
  obtain ⟨h4, h5, h6⟩ := hu
  unfold maxLen at h2 h5
  have h1c : ((xss.length : Int) != xss.length) = false := by simp
  have HV := Lib.hid h3; clear h3
  have HU := Lib.hid h6; clear h6
  generalize hn : xss.length = n at *
  clear hn
  go_enter Tryd.func30, Tryd.ntmps30
  go_wp2_with fail
  go_loopw [5] (fun i wr => ∃ k : Nat, k ≤ n ∧ i = .int .i64 k ∧ Below w.heap.size w wr) (fun i _ => n - (intOf i).toNat)
  case atStart => exact ⟨0, Nat.zero_le _, rfl, Below.refl _ _⟩
  case round =>
    obtain ⟨k, hk, rfl, hbr⟩ := hrel
    by_cases hlt : k < n
    · obtain ⟨b, off, e1, hb, hc⟩ := HV.out.resolve_left (by omega)
      obtain ⟨b', off', e2, hb', hc'⟩ := HU.out.resolve_left (by omega)
      subst e1; subst e2
      obtain ⟨v, g1, r1⟩ := hc k hlt
      obtain ⟨u, g2, r2⟩ := hc' k hlt
      have g1' := (hbr.cell (p := ⟨b, off + k, none⟩) hb).trans g1
      have g2' := (hbr.cell (p := ⟨b', off' + k, none⟩) hb').trans g2
      have HS := Lib.hid (fun W (hW : Below w.heap.size w W) => sameInts_any v u _ _ W (r1.keep hW) (r2.keep hW))
      obtain ⟨av, cv, rfl, _⟩ := r1
      obtain ⟨au, cu, rfl, _⟩ := r2
      have hkc : (k : Int) < n := by omega
      clear g1 g2 hc hc'
      generalize (xss.getD k []) = ys at *
      generalize ys.length = m at *
      have hd : decide (ys = ys) = true := by simp
      rw [hd] at HS
      clear hd
      go_wp2_with fail
      go_region_with (go_at_call 11; refine (HS.out _ (by first | exact hbr | exact hbr.drew | exact below_drewN hbr _)).mono ?_; rintro e w2 ⟨rfl, hw2⟩; have hb2 := (show Below w.heap.size w _ by first | exact hbr.drew | exact hbr).trans ((below_draws hw2).mono (by have := hbr.size; simpa using this)))
      all_goals
        clear hw2
        go_wp2_with fail
      all_goals exact ⟨⟨k + 1, by omega, by go_num, hb2⟩, by simp [intOf]; omega⟩
    · have hkn : k = n := by omega
      subst hkn
      go_wp2_with fail
      go_ret
      exact ⟨rfl, hbr⟩

end Go.Proofs.YtcodmijphejfdaaDoor
