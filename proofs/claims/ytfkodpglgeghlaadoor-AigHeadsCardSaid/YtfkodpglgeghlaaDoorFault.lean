/- Contracts of skolemsee.Fault and skolemsee.Same at the errors that the program answers: none, one of package api's, one of these with a place. Conditions: the package's errors lie as 'Sents' says. -/
import Derived.Test.YtfkodpglgeghlaaDoorSee
namespace Go.Proofs.YtfkodpglgeghlaaDoor
open Go.RowKit

theorem noAt (v : Value) (w : World) : (Instr.typeAssert (.iface 135 v) 31 73 true).run Tryd.prog w = .ok (.tuple #[.pointer none, .bool false]) w := by kernel_rfl
theorem isAt (v : Value) (w : World) : (Instr.typeAssert (.iface 73 v) 31 73 true).run Tryd.prog w = .ok (.tuple #[v, .bool true]) w := by kernel_rfl

set_option maxHeartbeats 1000000 in
theorem fault_nil (w : World) : Calls Tryd.prog 36 #[.nilIface] w fun e w' => e = .returned (faultV 0 false 0) ∧ Below w.heap.size w w' := by
  have HN := Lib.hid none_any
  go_enter Tryd.func36, Tryd.ntmps36
  go_wp2_with fail
  refine (HN.out _).mono ?_
  rintro e w1 ⟨rfl, hb⟩
  obtain ⟨hc, hf⟩ := bcell hb
  unfold faultV
  go_wp2_with fail
  exact bodyPost_ret (v := .agg #[.int .i64 0, .bool false, .int .i64 0]) (by simp [results, Tryd.results36, go_sem, hc]) rfl ⟨rfl, (((Below.refl _ w).alloc (Nat.le_refl _) _).trans (hb.mono (by simp))).setCell (by simp) _ |>.setCell (by simp) _ |>.setCell (by simp) _⟩

set_option maxHeartbeats 1000000 in
theorem fault_sent (A : Nat → Addr) (i : Nat) (w : World) (h : Sents w A) (hi : i < 7) : Calls Tryd.prog 36 #[sentV A i] w fun e w' => e = .returned (faultV (101 + (i : Int)) false 0) ∧ Below w.heap.size w w' := by
  have HS := Lib.hid (fun W (hW : Below w.heap.size w W) => sentinel_any A i W (h.keep hW) hi)
  have HB := Lib.hid bare_any
  have hv : sentV A i = .iface 135 (.pointer (some (A i))) := rfl
  rw [hv] at HS ⊢
  clear hv
  generalize A i = a at *
  have hbn : 101 + (i : Int) ≤ 1000 := by omega
  have hbp : (0 : Int) ≤ 101 + (i : Int) := by omega
  clear h
  have hna := noAt
  go_enter Tryd.func36, Tryd.ntmps36
  go_wp2_with fail
  refine (HS.out _ ((Below.refl _ w).alloc (Nat.le_refl _) _)).mono ?_
  rintro e w1 ⟨rfl, hb⟩
  have hb1 := ((Below.refl _ w).alloc (Nat.le_refl _) _).trans (hb.mono (by simp))
  go_wp2_with fail
  refine (HB.out _ _).mono ?_
  rintro e w2 ⟨rfl, hb2⟩
  have hb3 := hb.trans (hb2.mono hb.size)
  obtain ⟨hc, hf⟩ := bcell hb3
  have hbw := hb1.trans (hb2.mono hb1.size)
  clear hb hb1 hb2
  unfold faultV
  go_wp2_with fail
  exact bodyPost_ret (v := .agg #[.int .i64 (101 + (i : Int)), .bool false, .int .i64 0]) (by simp [results, Tryd.results36, go_sem, hc]) rfl ⟨rfl, ((hbw.setCell (by simp) _).setCell (by simp) _).setCell (by simp) _⟩

set_option maxHeartbeats 2000000 in
theorem fault_at (A : Nat → Addr) (i : Nat) (b : Nat) (k : Int) (w : World) (h : Sents w A) (hi : i < 7) (h0 : w.cell? ⟨b, 0, none⟩ = some (.int .i64 k)) (h1 : w.cell? ⟨b, 1, none⟩ = some (sentV A i)) :
    Calls Tryd.prog 36 #[.iface 73 (.pointer (some ⟨b, 0, none⟩))] w fun e w' => e = .returned (faultV (101 + (i : Int)) true k) ∧ Below w.heap.size w w' := by
  have HS := Lib.hid (fun W (hW : Below w.heap.size w W) => sentinel_any A i W (h.keep hW) hi)
  have HP := Lib.hid (fun W => placed_any (101 + (i : Int)) k W (by omega))
  have hv : sentV A i = .iface 135 (.pointer (some (A i))) := rfl
  rw [hv] at HS h1
  clear hv
  generalize A i = a at *
  have hblt := World.block_lt_of_cell? w _ h0
  simp only at hblt
  clear h
  have hna := isAt
  go_enter Tryd.func36, Tryd.ntmps36
  go_wp2_with fail
  have hk0 : ∀ W, Below w.heap.size w W → W.cell? ⟨b, 0, none⟩ = some (.int .i64 k) := fun W hW => (hW.cell (p := ⟨b, 0, none⟩) hblt).trans h0
  have hk1 : ∀ W, Below w.heap.size w W → W.cell? ⟨b, 1, none⟩ = some (.iface 135 (.pointer (some a))) := fun W hW => (hW.cell (p := ⟨b, 1, none⟩) hblt).trans h1
  have HK0 := Lib.hid hk0; clear hk0
  have HK1 := Lib.hid hk1; clear hk1
  have hbw0 : Below w.heap.size w (w.alloc (.cells #[.int .i64 0, .bool false, .int .i64 0] 39)) := (Below.refl _ w).alloc (Nat.le_refl _) _
  go_region_with (first
    | (go_at_call 52; refine (HS.out _ (by first | exact hbw0 | exact hbw0.drew)).mono ?_; rintro e w1 ⟨rfl, hb⟩; have hb1 := hbw0.drew.trans (hb.mono (by simp)); have hc0 := HK0.out w1 hb1; have hc1 := HK1.out w1 hb1)
    | (go_at_call 18; refine (HP.out _).mono ?_; rintro e w2 ⟨rfl, hb2⟩; have hb3 := hb.trans (hb2.mono hb.size); have hbw := hb1.trans (hb2.mono hb1.size); clear hb hb1 hb2; obtain ⟨hc, hf⟩ := bcell hb3; unfold faultV))
  all_goals
    go_wp2
    exact bodyPost_ret (v := .agg #[.int .i64 (101 + (i : Int)), .bool true, .int .i64 k]) (by simp [results, Tryd.results36, go_sem, hc]) rfl ⟨rfl, ((hbw.setCell (by simp) _).setCell (by simp) _).setCell (by simp) _⟩

/-- The error value reads, from w on, as this fault. -/
def ErrAs (w : World) (ev : Value) (c : Int) (p : Bool) (k : Int) : Prop :=
  ∀ W, Below w.heap.size w W → Calls Tryd.prog 36 #[ev] W fun e w' => e = .returned (faultV c p k) ∧ Below W.heap.size W w'
theorem errAs_nil (w : World) : ErrAs w .nilIface 0 false 0 := fun W _ => fault_nil W
theorem errAs_sent {A : Nat → Addr} {w : World} (h : Sents w A) (i : Nat) (hi : i < 7) : ErrAs w (sentV A i) (101 + (i : Int)) false 0 := fun W hW => fault_sent A i W (h.keep hW) hi
theorem errAs_at {A : Nat → Addr} {w : World} (h : Sents w A) (i : Nat) (hi : i < 7) (b : Nat) (k : Int) (h0 : w.cell? ⟨b, 0, none⟩ = some (.int .i64 k)) (h1 : w.cell? ⟨b, 1, none⟩ = some (sentV A i)) :
    ErrAs w (.iface 73 (.pointer (some ⟨b, 0, none⟩))) (101 + (i : Int)) true k := fun W hW =>
  fault_at A i b k W (h.keep hW) hi ((hW.cell (p := ⟨b, 0, none⟩) (World.block_lt_of_cell? w _ h0)).trans h0) ((hW.cell (p := ⟨b, 1, none⟩) (World.block_lt_of_cell? w _ h1)).trans h1)
theorem ErrAs.keep {w w' : World} {ev : Value} {c : Int} {p : Bool} {k : Int} (h : ErrAs w ev c p k) (hb : Below w.heap.size w w') : ErrAs w' ev c p k := fun W hW => h W (hb.trans (hW.mono hb.size))

set_option maxHeartbeats 2000000 in
theorem see_yes (ev : Value) (c : Int) (p : Bool) (k : Int) (w : World) (h : ErrAs w ev c p k) : Calls Tryd.prog 17 #[ev, faultV c p k] w fun e w' => e = .returned (.bool true) ∧ Below w.heap.size w w' := by
  have HE := Lib.hid h; clear h
  have HS := Lib.hid (fun W => sameFault_yes c p k W)
  have hbw0 : Below w.heap.size w (w.alloc (.cells #[.int .i64 c, .bool p, .int .i64 k] 39)) := (Below.refl _ w).alloc (Nat.le_refl _) _
  unfold faultV
  unfold ErrAs faultV at HE
  unfold faultV at HS
  go_enter Tryd.func17, Tryd.ntmps17
  go_wp2_with fail
  go_region_with (first
    | (go_at_call 36; refine (HE.out _ (by first | exact hbw0 | exact hbw0.drew)).mono ?_; rintro e w1 ⟨rfl, hb⟩; have hbw := hbw0.drew.trans (hb.mono (by simp)); obtain ⟨hc, hf⟩ := bcell hb)
    | (go_at_call 35; refine (HS.out _).mono ?_; rintro e w2 ⟨rfl, hb2⟩))
  all_goals
    go_wp2
    go_ret
    exact ⟨rfl, hbw.trans (hb2.mono hbw.size)⟩
end Go.Proofs.YtfkodpglgeghlaaDoor
