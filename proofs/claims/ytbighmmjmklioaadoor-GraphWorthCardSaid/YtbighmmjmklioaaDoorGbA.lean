/- The contract of graph.Build of any circuit, as far as the error. Conditions: as GrK's. -/
import Derived.Test.YtbighmmjmklioaaDoorGbB
namespace Go.Proofs.YtbighmmjmklioaaDoor
open Go.RowKit

theorem check_vals (n : Int) (ps : List (Int × Int)) (os : List Int) : checkC n ps os = 0 ∨ checkC n ps os = 102 ∨ checkC n ps os = 104 := by
  unfold checkC
  split
  · exact .inr (.inl rfl)
  · split
    · exact .inl rfl
    · exact .inr (.inr rfl)

set_option maxRecDepth 8000 in
set_option maxHeartbeats 4000000 in
theorem gbuild_bad (A : Nat → Addr) (n : Int) (u v : Value) (ps : List (Int × Int)) (os : List Int) (w : World) (hs : Sents2 w A) (hu : PRow w u ps) (hv : Row w v os) (hn : in64 n) (hpl : ps.length ≤ 8000) (hol : os.length ≤ 1000000)
    (hpb : ∀ x ∈ ps, in64 x.1 ∧ in64 x.2) (hob : ∀ o ∈ os, in64 o) (hc : checkC n ps os ≠ 0) :
    Calls Tryd.prog 42 #[circV n u v] w fun e w' => e = .returned (.tuple #[.pointer none, .slice none 0 0, errC A (checkC n ps os)]) ∧ Below w.heap.size w w' := by
  have HCK := Lib.hid (fun W (hW : Below w.heap.size w W) => gcheck_any A n u v ps os W (hs.keep hW) (hu.keep hW) (hv.keep hW) hn hpl hol hpb hob)
  obtain ⟨i, hi⟩ : ∃ i : Nat, errC A (checkC n ps os) = .iface 103 (.pointer (some (A i))) := by
    rcases check_vals n ps os with h | h | h
    · exact absurd h hc
    · rw [h, errC_lim]; exact ⟨_, rfl⟩
    · rw [h, errC_ran]; exact ⟨_, rfl⟩
  rw [hi] at HCK ⊢
  obtain ⟨a1, c1, rfl, hu1, hu2, hu3⟩ := hu
  obtain ⟨a2, c2, rfl, hv1, hv2, hv3⟩ := hv
  have HB : Hid (Below w.heap.size w (w.alloc (.cells #[.int .i64 n, .slice a1 ps.length c1, .slice a2 os.length c2] 43))) := (Below.refl _ w).alloc (Nat.le_refl _) _
  clear hs hu1 hu2 hu3 hv1 hv2 hv3 hn hpl hol hpb hob hc hi
  unfold circV at *
  generalize ps.length = m at *
  generalize os.length = l at *
  have HC1 := Lib.hid (HCK.out _ HB.out)
  clear HCK
  go_enter Tryd.func42, Tryd.ntmps42
  go_wp2_with fail
  refine HC1.out.mono ?_
  rintro e w1 ⟨rfl, hb1⟩
  have HB1 := Lib.hid (HB.out.trans (hb1.mono (by simp)))
  clear hb1
  go_wp2_with fail
  first
    | (go_ret; exact ⟨rfl, HB1.out⟩)
    | exact bodyPost_ret (v := .tuple #[.pointer none, .slice none 0 0, .iface 103 (.pointer (some (A i)))]) (by simp [results, Tryd.results42, go_sem]) rfl ⟨rfl, HB1.out⟩
/-- What is told of any circuit. -/
theorem gbuild_any (A : Nat → Addr) (n : Int) (u v : Value) (ps : List (Int × Int)) (os : List Int) (w : World) (hs : Sents2 w A) (hu : PRow w u ps) (hv : Row w v os) (hn : in64 n) (hpl : ps.length ≤ 8000) (hol : os.length ≤ 1000000)
    (hpb : ∀ x ∈ ps, in64 x.1 ∧ in64 x.2) (hob : ∀ o ∈ os, in64 o) :
    Calls Tryd.prog 42 #[circV n u v] w fun e w' => (∃ p o, e = .returned (.tuple #[p, o, errC A (checkC n ps os)])) ∧ Below w.heap.size w w' := by
  by_cases hc : checkC n ps os = 0
  · have h0 : 0 ≤ n := by
      unfold checkC at hc
      by_cases h1 : n < 0 ∨ 8000 < n + (ps.length : Int)
      · rw [if_pos h1] at hc; omega
      · omega
    obtain ⟨N, rfl⟩ := Int.eq_ofNat_of_zero_le h0
    refine (gbuild_ok A N u v ps os w hs hu hv hol hpb hob hc).mono ?_
    rintro e w' ⟨⟨p, o, _, rfl, _⟩, hb⟩
    exact ⟨⟨p, o, by rw [hc]; rfl⟩, hb⟩
  · refine (gbuild_bad A n u v ps os w hs hu hv hn hpl hol hpb hob hc).mono ?_
    rintro e w' ⟨rfl, hb⟩
    exact ⟨⟨_, _, rfl⟩, hb⟩
end Go.Proofs.YtbighmmjmklioaaDoor
