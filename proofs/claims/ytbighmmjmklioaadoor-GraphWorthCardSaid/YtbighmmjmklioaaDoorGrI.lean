/- The contract of graph's Input. Conditions: the graph lies in memory as 'GrM' says; the errors lie as 'Sents2' says; the number is a 64-bit int. -/
import Derived.Test.YtbighmmjmklioaaDoorGrE
namespace Go.Proofs.YtbighmmjmklioaaDoor
open Go.RowKit Go.Maps

theorem grM_n {w : World} {A : Nat → Addr} {v : Value} {S : List Nat} {g : Gr} (h : GrM w A v S g) : g.n ≤ 8000 := by
  obtain ⟨p, m, u, N, D, h⟩ := h
  have := h.len
  unfold Gr.len at this
  omega
set_option maxRecDepth 8000 in
set_option maxHeartbeats 2000000 in
theorem gin_any {A : Nat → Addr} {v : Value} {S : List Nat} {g : Gr} (w : World) (h : GrM w A v S g) (hs : Sents2 w A) (i : Int) (hi : in64 i) :
    Calls Tryd.prog 64 #[v, .int .i64 i] w (GrPost w A v S (inG g i)) := by
  obtain ⟨hi1, hi2⟩ := hi
  have hn := grM_n h
  have HF := Lib.hid (gfail_any w h 104 (.inr rfl))
  rw [errC_ran] at HF
  have HH := Lib.hid h
  have s3 := hs.c3
  obtain ⟨p, m, u, N, D, h⟩ := h
  obtain rfl := h.val
  have c0 := h.c0
  clear h hs
  by_cases h0 : i < 0
  · have HR : Hid (inG g i = (g.fail 104, 0)) := by unfold Hid inG; rw [if_neg (by omega)]
    generalize inG g i = R at *
    generalize g.n = gn at *
    go_enter Tryd.func64, Tryd.ntmps64
    go_wp2_with fail
    refine HF.out.mono ?_
    rintro e w' ⟨rfl, hG, hC⟩
    have HG := Lib.hid (And.intro hG hC)
    clear hG hC
    go_wp2_with fail
    go_ret
    rw [HR.out]
    exact ⟨rfl, ⟨S, HG.out.1, Fresh.refl _ _⟩, HG.out.2⟩
  · by_cases h1 : i < (g.n : Int)
    · have HR : Hid (inG g i = (g, 2 * (i + 1))) := by unfold Hid inG; rw [if_pos (by omega)]
      have h1b : ¬ (g.n : Int) ≤ i := by omega
      have HL := Lib.hid (fun W => glit_any (i + 1) W (by omega) (by omega))
      generalize inG g i = R at *
      generalize g.n = gn at *
      go_enter Tryd.func64, Tryd.ntmps64
      go_wp2_with fail
      refine (HL.out _).mono ?_
      rintro e w' ⟨rfl, rfl⟩
      go_wp2_with fail
      go_ret
      rw [HR.out]
      exact ⟨rfl, ⟨S, HH.out, Fresh.refl _ _⟩, Chg.refl _ _⟩
    · have HR : Hid (inG g i = (g.fail 104, 0)) := by unfold Hid inG; rw [if_neg (by omega)]
      have h1b : (g.n : Int) ≤ i := by omega
      generalize inG g i = R at *
      generalize g.n = gn at *
      go_enter Tryd.func64, Tryd.ntmps64
      go_wp2_with fail
      refine HF.out.mono ?_
      rintro e w' ⟨rfl, hG, hC⟩
      have HG := Lib.hid (And.intro hG hC)
      clear hG hC
      go_wp2_with fail
      go_ret
      rw [HR.out]
      exact ⟨rfl, ⟨S, HG.out.1, Fresh.refl _ _⟩, HG.out.2⟩
end Go.Proofs.YtbighmmjmklioaaDoor
