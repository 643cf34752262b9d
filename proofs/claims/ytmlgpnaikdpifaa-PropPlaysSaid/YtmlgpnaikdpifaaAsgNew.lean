/- Contracts of assign.New and skolemref1.NewAssign: values of so many variables, none known. Conditions: none beyond 64 bits. -/
import Derived.Test.YtmlgpnaikdpifaaAsgRef
namespace Go.Proofs.Ytmlgpnaikdpifaa
open Go.RowKit

theorem asg_made {w w1 : World} {n : Nat} {T : TypeId} (hown : w1.ownsRow w.heap.size 3 1 (.slice (some ⟨w.heap.size, 0, none⟩) n n) n ((List.replicate n (0 : Int)).map (Value.int .i64))) (hs : w.heap.size < w1.heap.size) (h1 : 0 < n) (h2 : n ≤ 4001) :
    Asg (w1.alloc (.cells #[.slice (some ⟨w.heap.size, 0, none⟩) n n] T)) w.heap.size (.pointer (some ⟨w1.heap.size, 0, none⟩)) w1.heap.size w.heap.size (List.replicate n 0) := by
  obtain ⟨_, a, c, e, hc1, hc2, hr⟩ : _ ∧ Row w1 _ _ := ⟨trivial, own_row hown⟩
  obtain ⟨b, off, ha, hb, hcell⟩ := hr.resolve_left (by simp; omega)
  injection e with e1 e2 e3
  rw [ha] at e1
  injection e1 with e1
  injection e1 with e4 e5
  subst e4; subst e5
  have hold : (w1.alloc (.cells #[.slice (some ⟨w.heap.size, 0, none⟩) n n] T)).heap[w.heap.size]? = w1.heap[w.heap.size]? := Below.heap_alloc _ _ _ hs
  refine ⟨rfl, by omega, by omega, by omega, by simp, by simp; omega, ⟨by simpa using h1, by simpa using h2, by simp [List.getD, List.getElem?_replicate]; split <;> rfl, fun i => .inl (by simp only [List.getD, List.getElem?_replicate]; split <;> rfl)⟩, ?_, ?_, ?_⟩
  · rw [List.length_replicate]
    have : (w1.alloc (.cells #[.slice (some ⟨w.heap.size, 0, none⟩) n n] T)).heap[w1.heap.size]? = some (.cells #[.slice (some ⟨w.heap.size, 0, none⟩) n n] T) := (MapKept.heap_alloc w1 _).1
    simp only [World.cell?, this]
    rfl
  · intro i hi
    rw [World.cell?_of_block (a := ⟨w.heap.size, i, none⟩) hold]
    have := hcell i hi
    rwa [Nat.zero_add] at this
  · intro i
    rw [World.frozen?_of_block (a := ⟨w.heap.size, i, none⟩) hold]
    rcases hown.2 with ⟨e0, _⟩ | ⟨g, cap, cur, e0, _, hg, _⟩
    · cases e0
    · injection e0 with e0 _ _
      injection e0 with e0
      injection e0 with e0
      subst e0
      simp [World.frozen?, hg]

def NewPost (w : World) (n : Int) (e : Ending) (w' : World) : Prop := ∃ p q, e = .returned (.pointer (some ⟨p, 0, none⟩)) ∧ Asg w' w.heap.size (.pointer (some ⟨p, 0, none⟩)) p q (newV n) ∧ Below w.heap.size w w'

theorem newV_of {n : Int} {m : Nat} (h : min (max n 0) 4000 + 1 = (m : Int)) : newV n = List.replicate m 0 := by unfold newV; rw [h]; rfl

set_option maxHeartbeats 1000000 in
theorem new_any (n : Int) (w : World) (hn1 : -9223372036854775808 ≤ n) (hn2 : n ≤ 9223372036854775807) :
    Calls Try.prog 40 #[.int .i64 n] w (NewPost w n) := by
  obtain ⟨m, hm⟩ : ∃ m : Nat, min (max n 0) 4000 + 1 = (m : Int) := ⟨(min (max n 0) 4000 + 1).toNat, by omega⟩
  have HV := Lib.hid (newV_of hm)
  have hm1 : 0 < m := by omega
  have hm2 : m ≤ 4001 := by omega
  by_cases hlo : n < 0
  · have hm : m = 1 := by omega
    subst hm
    go_enter Try.func40, Try.ntmps40
    go_wp2_with (at_make; refine wpList_makeN rfl _ _ rfl _ 1 rfl rfl (by omega) ?_; intro w1 hown hb hs)
    go_ret
    exact ⟨_, _, rfl, by rw [HV.out]; exact asg_made hown hs hm1 hm2, hb.alloc (by omega) _⟩
  · by_cases hhi : 4000 < n
    · have hm : m = 4001 := by omega
      subst hm
      go_enter Try.func40, Try.ntmps40
      go_wp2_with (at_make; refine wpList_makeN rfl _ _ rfl _ 4001 rfl rfl (by omega) ?_; intro w1 hown hb hs)
      go_ret
      exact ⟨_, _, rfl, by rw [HV.out]; exact asg_made hown hs hm1 hm2, hb.alloc (by omega) _⟩
    · obtain ⟨k, rfl⟩ : ∃ k : Nat, n = (k : Int) := ⟨n.toNat, by omega⟩
      have hm : m = k + 1 := by omega
      subst hm
      go_enter Try.func40, Try.ntmps40
      go_wp2_with (at_make; refine wpList_makeN rfl _ _ rfl _ (k + 1) rfl rfl (by omega) ?_; intro w1 hown hb hs)
      go_ret
      exact ⟨_, _, rfl, by rw [HV.out]; exact asg_made hown hs hm1 hm2, hb.alloc (by omega) _⟩

set_option maxHeartbeats 1000000 in
theorem refNew_any (n : Int) (w : World) (hn1 : -9223372036854775808 ≤ n) (hn2 : n ≤ 9223372036854775807) :
    Calls Try.prog 70 #[.int .i64 n] w (NewPost w n) := by
  obtain ⟨m, hm⟩ : ∃ m : Nat, min (max n 0) 4000 + 1 = (m : Int) := ⟨(min (max n 0) 4000 + 1).toNat, by omega⟩
  have HV := Lib.hid (newV_of hm)
  have hm1 : 0 < m := by omega
  have hm2 : m ≤ 4001 := by omega
  by_cases hlo : n < 0
  · have hm : m = 1 := by omega
    subst hm
    go_enter Try.func70, Try.ntmps70
    go_wp2_with (at_make; refine wpList_makeN rfl _ _ rfl _ 1 rfl rfl (by omega) ?_; intro w1 hown hb hs)
    go_ret
    exact ⟨_, _, rfl, by rw [HV.out]; exact asg_made hown hs hm1 hm2, hb.alloc (by omega) _⟩
  · by_cases hhi : 4000 < n
    · have hm : m = 4001 := by omega
      subst hm
      go_enter Try.func70, Try.ntmps70
      go_wp2_with (at_make; refine wpList_makeN rfl _ _ rfl _ 4001 rfl rfl (by omega) ?_; intro w1 hown hb hs)
      go_ret
      exact ⟨_, _, rfl, by rw [HV.out]; exact asg_made hown hs hm1 hm2, hb.alloc (by omega) _⟩
    · obtain ⟨k, rfl⟩ : ∃ k : Nat, n = (k : Int) := ⟨n.toNat, by omega⟩
      have hm : m = k + 1 := by omega
      subst hm
      go_enter Try.func70, Try.ntmps70
      go_wp2_with (at_make; refine wpList_makeN rfl _ _ rfl _ (k + 1) rfl rfl (by omega) ?_; intro w1 hown hb hs)
      go_ret
      exact ⟨_, _, rfl, by rw [HV.out]; exact asg_made hown hs hm1 hm2, hb.alloc (by omega) _⟩
end Go.Proofs.Ytmlgpnaikdpifaa
