/- Contracts of slow.model, skolemref1.model, skolemmake.Values: a number's bits as values. Conditions: few variables. -/
import Derived.Test.YtcodmijphejfdaaDoorWinT
namespace Go.Proofs.YtcodmijphejfdaaDoor
open Go.RowKit

theorem bit_test (n k : Nat) : (bits .and .i64 ((n : Int) / 2 ^ k) 1 == 1) = n.testBit k := by
  have h1 : ((n : Int) / 2 ^ k) = ((n / 2 ^ k : Nat) : Int) := by simp
  have h2 : bits .and .i64 ((n / 2 ^ k : Nat) : Int) 1 = ((n / 2 ^ k % 2 : Nat) : Int) := by
    show IntKind.i64.wrap ((BitVec.ofInt 64 ((n / 2 ^ k : Nat) : Int) &&& BitVec.ofInt 64 1).toNat : Int) = _
    have h3 : (BitVec.ofInt 64 1).toNat = 2 ^ 1 - 1 := by decide
    rw [BitVec.toNat_and, h3, Nat.and_two_pow_sub_one_eq_mod, BitVec.ofInt_natCast, BitVec.toNat_ofNat, IntKind.wrap_i64]
    have : n / 2 ^ k % 2 ^ 64 % 2 ^ 1 = n / 2 ^ k % 2 := by omega
    rw [this]
    omega
  rw [h1, h2, Nat.testBit_eq_decide_div_mod_eq, Bool.eq_iff_iff]
  simp
  omega
theorem bitsN_snoc (n k : Nat) : bitsN n (k + 1) = bitsN n k ++ [n.testBit k] := by unfold bitsN; rw [List.range_succ, List.map_append]; rfl

/-- The bits of a number that may lie below 0: what the law's own helper makes of them. -/
def valsI (n : Int) (m : Nat) : List Bool := (List.range m).map fun i => bits .and .i64 (n / 2 ^ (i % 60)) 1 == 1
theorem valsI_len (n : Int) (m : Nat) : (valsI n m).length = m := by simp [valsI]

set_option maxRecDepth 4000 in
set_option maxHeartbeats 2000000 in
theorem values_any (n : Int) (m : Nat) (w : World) (hm : m ≤ 60) :
    Calls Tryd.prog 21 #[.int .i64 n, .int .i64 (m : Int)] w fun e w' => (∃ v, e = .returned v ∧ w'.ownsRow w.heap.size 4 1 v m ((valsI n m).map Value.bool)) ∧ Below w.heap.size w w' := by
  have HST : Hid (∀ k, k < m → valsI n k ++ [bits .and .i64 (n / 2 ^ k) 1 == 1] = valsI n (k + 1)) := fun k hk => by
    unfold valsI
    rw [List.range_succ, List.map_append]
    simp [show k % 60 = k by omega]
  go_enter Tryd.func21, Tryd.ntmps21
  go_wp2_with fail
  go_loopw [5, 6] (fun v i wr => ∃ k : Nat, k ≤ m ∧ i = .int .i64 k ∧ wr.ownsRow w.heap.size 4 1 v k ((valsI n k).map Value.bool) ∧ Below w.heap.size w wr) (fun _ i _ => m - (intOf i).toNat)
  case atStart => exact ⟨0, Nat.zero_le _, rfl, ⟨rfl, .inl ⟨rfl, rfl⟩⟩, Below.refl _ _⟩
  case round =>
    obtain ⟨k, hk, rfl, hown, hbr⟩ := hrel
    by_cases hlt : k < m
    · have HSTK := Lib.hid (HST.out k hlt)
      have hs := hbr.size
      obtain ⟨ao, co, rfl⟩ := own_shape3 hown
      have HBR := Lib.hid hbr
      have hk60 : (k : Int).tmod 60 = (k : Int) := Int.tmod_eq_of_lt (by omega) (by omega)
      clear hbr
      go_wp2_with (at_builtin; refine wpList_app1G Value.bool _ _ _ 1 Tryd.underlying52 infoBo rfl (by decide) rfl _ _ rfl wr w.heap.size _ _ _ _ rfl hown hs (by omega) rfl rfl ?_; intro v3 w3 hown3 hap3)
      have HO3 : Hid (w3.ownsRow w.heap.size 4 1 v3 (k + 1) ((valsI n (k + 1)).map Value.bool)) := by
        rw [← HSTK.out]
        exact hown3
      clear hown3
      go_roundw
      case rel => exact ⟨k + 1, by omega, by go_num, HO3.out, HBR.out.trans hap3.below⟩
      case measure => simp [intOf]; omega
    · have hkm : k = m := by omega
      subst hkm
      obtain ⟨ao, co, rfl⟩ := own_shape3 hown
      have HO := Lib.hid hown
      have HBR := Lib.hid hbr
      clear hown hbr
      go_wp2_with fail
      go_ret
      exact ⟨⟨_, rfl, HO.out⟩, HBR.out⟩
end Go.Proofs.YtcodmijphejfdaaDoor
