/- Contracts of tseitin.Extend and skolemlaw13.first. Conditions: the circuit is right; the two errors lie as 'Sents2' says. -/
import Derived.Test.YtmgepagdkfghlaaDoorTsF
import Derived.Test.YtmgepagdkfghlaaDoorLkN
namespace Go.Proofs.YtmgepagdkfghlaaDoor
open Go.RowKit

set_option maxHeartbeats 1000000 in
theorem text_any (A : Nat → Addr) (N : Nat) (u v q : Value) (ps : List (Int × Int)) (os : List Int) (ins : List Bool) (w : World) (hs : Sents2 w A) (hu : PRow w u ps) (hv : Row w v os) (hol : os.length ≤ 1000000) (hob : ∀ o ∈ os, in64 o) (hq : BRow w q ins) (hnl : ins.length ≤ 1000) (hc : checkC (N : Int) ps os = 0) :
    Calls Tryd.prog 13 #[circV (N : Int) u v, q] w fun e w' => ∃ z, e = .returned z ∧ w'.ownsRow w.heap.size 4 1 z (N + 1 + ps.length) ((nodesV N ps ins).map Value.bool) ∧ Below w.heap.size w w' := by
  have HL := Lib.hid (fun W (hW : Below w.heap.size w W) => lnodes_any A N u v q ps os ins W (hs.keep hW) (hu.keep hW) (hv.keep hW) hol hob (hq.keep hW) hnl hc)
  obtain ⟨a1, c1, rfl, _⟩ := hu
  obtain ⟨a2, c2, rfl, _⟩ := hv
  obtain ⟨a3, c3, rfl, _⟩ := hq
  have HA : Hid (Below w.heap.size w (w.alloc (.cells #[.int .i64 (N : Int), .slice a1 ps.length c1, .slice a2 os.length c2] 25))) := (Below.refl _ _).alloc (Nat.le_refl _) _
  have HC := Lib.hid (HL.out _ HA.out)
  clear HL hs hob hc hol hnl
  unfold circV at *
  generalize nodesV N ps ins = vs at *
  generalize ps.length = m at *
  generalize os.length = l at *
  generalize ins.length = il at *
  go_enter Tryd.func13, Tryd.ntmps13
  go_wp2_with fail
  refine HC.out.mono ?_
  rintro e w1 ⟨z, rfl, hz, hb1⟩
  have HZ := Lib.hid (own_base hz (show w.heap.size ≤ _ by simp))
  have HB1 := Lib.hid (HA.out.trans (hb1.mono (by simp)))
  obtain ⟨az, cz, rfl, _, _⟩ := own_shape hz
  clear hz hb1
  go_wp2_with fail
  go_ret
  exact ⟨_, rfl, HZ.out, HB1.out⟩

theorem okO_all {N : Nat} {ps : List (Int × Int)} {os : List Int} (h : checkC (N : Int) ps os = 0) : ∀ o ∈ os, in64 o := by
  obtain ⟨h1, h2, h3⟩ := check_zero8 h
  refine okO_in (m := N + ps.length) (by omega) fun o ho => ?_
  obtain ⟨j, hj, rfl⟩ := List.getElem_of_mem ho
  simpa [List.getD, hj] using h3 j hj
set_option maxHeartbeats 1000000 in
theorem first13_any (A : Nat → Addr) (w : World) (hs : Sents2 w A) :
    Calls Tryd.prog 7 #[] w fun e w' => e = .returned (.bool true) ∧ Below w.heap.size w w' := by
  have HR : Hid (Row (w.alloc (.cells #[.int .i64 0] 3)) (.slice (some ⟨w.heap.size, 0, none⟩) 1 1) [0]) := row_lit13 w [0] (by simp)
  have HB2 : Hid (Below w.heap.size w (w.alloc (.cells #[.int .i64 0] 3))) := (Below.refl _ w).alloc (Nat.le_refl _) _
  have HE := Lib.hid (tenc_ok A 1 (.slice none 0 0) (.slice none 0 0) (.slice (some ⟨w.heap.size, 0, none⟩) 1 1) [] [] [0] _ (hs.keep HB2.out) (PRow.nil _) (Row.nil _) HR.out (by simp) (by simp) (by simp) (by intro l hl; simp at hl; subst hl; exact ⟨by omega, by omega⟩) (by decide) (by decide) (by simp))
  have HL := Lib.hid (fun W => tlit_any 5 W (by omega) (by omega))
  rw [show litC 5 = -2 from by decide] at HL
  unfold EncPost at HE
  rw [show encC 1 [] [0] = [[]] from by decide, show errC A 0 = .nilIface from rfl] at HE
  unfold circV at HE
  rw [show ((1 : Nat) : Int) + (([] : List (Int × Int)).length : Int) = 1 from rfl, show ((1 : Nat) : Int) = 1 from rfl] at HE
  clear hs
  go_enter Tryd.func7, Tryd.ntmps7
  go_wp2_with fail
  refine HE.out.mono ?_
  rintro e w1 ⟨⟨o, rfl, hr⟩, hb1⟩
  have HB := Lib.hid (HB2.out.trans (hb1.mono (by simp)))
  obtain ⟨ao, co, rfl, _⟩ := hr.rows
  have HA : Hid (Below w.heap.size w (w1.alloc (.cells #[.int .i64 1, .slice ao 1 co] 29))) := HB.out.alloc HB.out.size _
  obtain ⟨k0, k1⟩ := two_new w1 w1.heap.size rfl (.int .i64 1) (.slice ao 1 co) 29
  simp only [List.length_singleton]
  clear hr hb1
  go_wp2_with (go_at_call 20; refine (HL.out _).mono ?_; rintro e w' ⟨rfl, rfl⟩)
  go_ret
  exact ⟨rfl, HA.out⟩
end Go.Proofs.YtmgepagdkfghlaaDoor
