/- The contract of slices.Clone at slices of ints, whatever the slice. Conditions: the slice reads as ints, and is not too long. -/
import Derived.Test.YtnhmeojcjnkebaaOwn
import Derived.Test.YtnhmeojcjnkebaaRead
import Derived.Test.YtnhmeojcjnkebaaChecked
import Derived.Laws.Cover3
import Derived.WalkSmall
namespace Go.Proofs.Ytnhmeojcjnkebaa
open Go.RowKit

theorem eqN_I (a : Option Addr) (l c : Nat) (w : World) : (binOp .eql 22 (.slice a l c) (.slice none 0 0)).run Try.prog w = .ok (.bool a.isNone) w := by
  have h := run_equal_slice_nil (P := Try.prog) (w := w) 22 3 a l c Try.underlying22
  simp [binOp, h, Result.andThen]
theorem own_empty (w : World) (B : Nat) (E : TypeId) (s : Nat) (hB : B ≤ w.heap.size) : (w.alloc (.cells #[] E)).ownsRow B E s (.slice (some ⟨w.heap.size, 0, none⟩) 0 0) 0 [] :=
  ⟨by simp, .inr ⟨w.heap.size, 0, _, rfl, hB, heap_alloc_new w _, Nat.le_refl _, by unfold maxLen; omega, by simp, by simp⟩⟩

set_option maxRecDepth 8000 in
set_option maxHeartbeats 2000000 in
theorem cloneI_any (v : Value) (xs : List Int) (w : World) (hv : Row w v xs) (hn : xs.length ≤ 1000000) :
    Calls Try.prog 13 #[v] w fun e w' => (∃ u, e = .returned u ∧ w'.ownsRow w.heap.size 3 1 u xs.length (xs.map (Value.int .i64))) ∧ Below w.heap.size w w' := by
  obtain ⟨av, cv, rfl, hv1, hv2, hv3⟩ := hv
  cases av with
  | none =>
    have h0 : xs.length = 0 := by
      rcases hv3 with h | ⟨b, off, e, _⟩
      · exact h
      · cases e
    have hp : xs = [] := List.eq_nil_of_length_eq_zero h0
    subst hp
    clear hv1 hv2 hv3 h0
    have hnl := eqN_I
    go_enter Try.func13, Try.ntmps13
    go_wp2_with fail
    go_ret
    exact ⟨⟨_, rfl, ⟨rfl, .inl ⟨rfl, rfl⟩⟩⟩, Below.refl _ _⟩
  | some ad =>
    obtain ⟨i0, hi, hz0, hz1, hz2⟩ := info_parts infoInt
    have HI := Lib.hid (And.intro hi (And.intro hz0 (And.intro hz1 hz2))); clear hi hz0 hz1 hz2
    have HCE : Hid (∀ j u, (xs.map (Value.int .i64))[j]? = some u → (w.alloc (.cells #[] 3)).cell? (ad.add j) = some u) := fun j u hj => by
      have hjl : j < xs.length := by
        rcases Nat.lt_or_ge j xs.length with h | h
        · exact h
        · rw [List.getElem?_eq_none (by simpa using h)] at hj; cases hj
      obtain ⟨b, off, e, hb, hc⟩ := hv3.resolve_left (by omega)
      have e := Option.some.inj e
      subst e
      have hbw : Below w.heap.size w (w.alloc (.cells #[] 3)) := (Below.refl _ _).alloc (Nat.le_refl _) _
      have hadd : ∀ k, (⟨b, off, none⟩ : Addr).add k = ⟨b, off + k, none⟩ := fun k => by
        by_cases e : k = 0
        · subst e; rfl
        · simp [Addr.add, e]
      rw [hadd, hbw.cell (p := ⟨b, off + j, none⟩) hb, hc j hjl]
      simp [hjl] at hj
      simp [List.getD, hjl, hj]
    have HONE : Hid (∀ u ∈ xs.map (Value.int .i64), u.oneCell' = true) := fun u hu => by
      obtain ⟨x, _, rfl⟩ := List.mem_map.1 hu
      rfl
    have HLEN : Hid ((xs.map (Value.int .i64)).length = xs.length * 1) := by unfold Hid; simp
    clear hv1 hv3
    generalize xs.map (Value.int .i64) = cs at *
    generalize xs.length = n at *
    have hnl := eqN_I
    go_enter Try.func13, Try.ntmps13
    go_wp2_with (at_builtin; refine wpList_append_own _ rfl _ _ 22 rfl w.heap.size 3 i0 _ 1 8 Try.underlying22 HI.out.1 HI.out.2.1 HI.out.2.2.1 HI.out.2.2.2 rfl (by decide) (.slice (some ⟨w.heap.size, 0, none⟩) 0 0) 0 [] rfl (own_empty w w.heap.size 3 1 (Nat.le_refl _)) ad n cv cs rfl HLEN.out HCE.out HONE.out (by unfold maxLen; omega) (by omega) (by simp) ?_; intro v' w' hown' hgrow hnil; have HPR := Lib.hid hown'; have hbw : Below w.heap.size w w' := ((Below.refl _ w).alloc (Nat.le_refl _) _).grown hgrow (by simp) (fun k hk => by cases hk; exact Nat.le_refl _); clear hown' hgrow hnil)
    go_ret
    exact ⟨⟨_, rfl, by simpa using HPR.out⟩, hbw⟩
end Go.Proofs.Ytnhmeojcjnkebaa
