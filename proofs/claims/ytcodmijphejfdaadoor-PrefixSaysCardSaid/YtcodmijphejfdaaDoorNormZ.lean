/- The contract of prefix.Norm, whole; of the statements' first(). Conditions: those typed. -/
import Derived.Test.YtcodmijphejfdaaDoorNormB
import Derived.Test.YtcodmijphejfdaaDoorNormC0
import Derived.Test.YtcodmijphejfdaaDoorNormC1
import Derived.Test.YtcodmijphejfdaaDoorNormC2
namespace Go.Proofs.YtcodmijphejfdaaDoor
open Go.RowKit

theorem normG_any (A : Nat → Addr) (vars : Int) (q : Option Addr) (d : Nat) (bs : List Blk) (a : Option Addr) (c : Nat) (xss : List (List Int)) (w : World) (hS : Sents3 w A) (hv1 : -9223372036854775808 ≤ vars) (hv2 : vars ≤ 9223372036854775807) (hq : BRowsAt w q d bs) (hr : RowsAt w a c xss)
    (hint : ∀ xs ∈ xss, ∀ l ∈ xs, -9223372036854775807 ≤ l ∧ l ≤ 9223372036854775807) (hlen : ∀ xs ∈ xss, xs.length < 1000000000) (hwb : ∀ v ∈ varsB bs, -9223372036854775808 ≤ v ∧ v ≤ 9223372036854775807)
    (hn1 : (varsB bs).length ≤ 400000000) (hn2 : xss.flatten.length ≤ 400000000) (hnb : bs.length ≤ 999999) (hnx : xss.length ≤ 1000000000) :
    Calls Tryd.prog 7 #[.agg #[.slice q bs.length d, .int .i64 vars, .slice a xss.length c]] w (NormPost A w vars bs xss) := by
  by_cases hb : (∃ c p k, CheckFF vars bs xss c p k ∧ c ≠ 0) ∨ 2 < (gameL bs xss).length
  · exact normG_bad A vars q d bs a c xss w hS hv1 hv2 hq hr hint hlen hwb hn1 hn2 hnb hnx hb
  · have hne : ¬ ∃ c p k, CheckFF vars bs xss c p k ∧ c ≠ 0 := fun h => hb (.inl h)
    have hl : ¬ 2 < (gameL bs xss).length := fun h => hb (.inr h)
    by_cases h0 : (gameL bs xss).length = 0
    · exact normG_zero A vars q d bs a c xss w hS hv1 hv2 hq hr hint hlen hwb hn1 hn2 hnb hnx hne h0
    · by_cases h1 : (gameL bs xss).length = 1
      · exact normG_one A vars q d bs a c xss w hS hv1 hv2 hq hr hint hlen hwb hn1 hn2 hnb hnx hne h1
      · exact normG_two A vars q d bs a c xss w hS hv1 hv2 hq hr hint hlen hwb hn1 hn2 hnb hnx hne (by omega)
theorem gameL_nil : gameL [] [] = [] := by simp [gameL, freeL, litsL, mergeL, mergeStep]
theorem check_zero : CheckFF 0 [] [] 0 false 0 :=
  .inr ⟨.inr (.inr ⟨by unfold tooMuch sumTo; simp, fun xs h => by simp at h, rfl, rfl, rfl⟩), .inl ⟨by simp [blksBad], rfl, rfl, rfl⟩⟩

set_option maxHeartbeats 1000000 in
theorem first6_any (A : Nat → Addr) (w : World) (hS : Sents3 w A) : Calls Tryd.prog 5 #[] w fun e w' => e = .returned (.bool true) ∧ Below w.heap.size w w' := by
  have HN := Lib.hid (normG_any A 0 none 0 [] none 0 [] w hS (by omega) (by omega) (BRowsAt.nil w) ⟨Nat.le_refl _, by unfold maxLen; omega, .inl rfl⟩ (fun _ h => by simp at h) (fun _ h => by simp at h) (fun _ h => by simp [varsB] at h) (by simp [varsB]) (by simp) (by simp) (by simp))
  have HP : Hid (∀ e w', NormPost A w 0 [] [] e w' → ∃ vo vi a cap, e = .returned (.tuple #[.agg #[.bool true, vo, vi, .slice a 0 cap], .nilIface]) ∧ Below w.heap.size w w' ∧ (∃ l, Row w' vo l) ∧ ∃ l, Row w' vi l) := fun e w' h => by
    obtain ⟨gv, ev, rfl, hb, h1 | h1 | ⟨_, _, rfl, hg⟩⟩ := h
    · obtain ⟨c, p, k, h0, h2, _⟩ := h1
      exact absurd (checkFF_same check_zero h2).1 h0
    · rw [gameL_nil] at h1
      simp at h1
    · rw [gameL_nil] at hg
      obtain ⟨vo, vi, a, cap, rfl, g1, g2, _⟩ := hg
      exact ⟨vo, vi, a, cap, rfl, hb, ⟨_, g1⟩, _, g2⟩
  go_enter Tryd.func5, Tryd.ntmps5
  go_wp2_with (go_at_call 7; refine HN.out.mono ?_; intro e w1 hp; obtain ⟨vo, vi, a, cap, rfl, hb1, ⟨_, ao, co, rfl, _⟩, _, ai, ci, rfl, _⟩ := HP.out _ _ hp; clear hp)
  go_ret
  exact ⟨rfl, hb1.alloc hb1.size _⟩
end Go.Proofs.YtcodmijphejfdaaDoor
