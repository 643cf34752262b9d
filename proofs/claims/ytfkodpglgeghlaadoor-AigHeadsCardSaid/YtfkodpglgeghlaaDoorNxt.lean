/- Contract of the reader's next. Conditions: the reader lies as 'RdM' says; the errors lie as 'Sents' says. -/
import Derived.Test.YtfkodpglgeghlaaDoorRdM
import Derived.Laws.ResultCell
import Derived.BigQuiet
namespace Go.Proofs.YtfkodpglgeghlaaDoor
open Go.RowKit

set_option maxHeartbeats 2000000 in
theorem next_end (A : Nat → Addr) (p g : Nat) (e : Int) (first : Bool) (w : World) (h : RdM w p g e []) (hS : SentsP A p w) :
    Calls Tryd.prog 73 #[.pointer (some ⟨p, 0, none⟩), .bool first] w (NextP A w p g e (.bad e)) := by
  obtain ⟨⟨a, c, h0, _, hcm, _⟩, h1, hf, hpl, _, _⟩ := h
  have HT := Lib.hid (fun W => at_any A e 0 W)
  have hx := hS.here.c0
  have hxl : 1 < w.heap.size := World.block_lt_of_cell? w _ hx
  simp only [List.length_nil] at h0
  clear hS hf
  have HB0 := Lib.hid ((Below.refl w.heap.size w).alloc (Nat.le_refl _) (.cells #[.string ⟨#[]⟩, .int .i64 0, .bool false] 91))
  go_enter Tryd.func73, Tryd.ntmps73
  go_wp2_with fail
  go_region_with (go_at_call 38; refine (HT.out _).mono ?_; rintro e1 w1 ⟨⟨ev, rfl, hat⟩, hb⟩; obtain ⟨hc, hf⟩ := bcell hb)
  all_goals
    go_wp2_with fail
    exact bodyPost_ret (v := .tuple #[wordZ, ev]) (by simp [results, Tryd.results73, go_sem, wordZ, hc]) rfl ⟨ev, rfl, (((hat.set _ _ _ (by simp)).set _ _ _ (by simp)).set _ _ _ (by simp)).mono (by simp), (((HB0.out.drew.trans (hb.mono (by simp))).setCell (by simp) _).setCell (by simp) _).setCell (by simp) _⟩

set_option maxHeartbeats 2000000 in
theorem next_bad (A : Nat → Addr) (p g : Nat) (e : Int) (first : Bool) (x : Wd) (ws : List Wd) (w : World) (h : RdM w p g e (x :: ws)) (hS : SentsP A p w) (hx : x.2.2 ≠ first) :
    Calls Tryd.prog 73 #[.pointer (some ⟨p, 0, none⟩), .bool first] w (NextP A w p g e (.bad x.2.1)) := by
  obtain ⟨⟨a, c, h0, hcl, hcm, hg⟩, h1, hf, hpl, hgl, hgp⟩ := h
  obtain ⟨off, rfl, hw⟩ := hg.resolve_left (by simp)
  have HT := Lib.hid (fun W => at_any A x.2.1 0 W)
  have hc0 := hS.here.c0
  have hxl : 1 < w.heap.size := World.block_lt_of_cell? w _ hc0
  have hz0 : 0 < w.heap.size := Nat.lt_of_le_of_lt (Nat.zero_le _) hpl
  have k0 : w.cell? ⟨g, off, none⟩ = some (.string (strOfNums x.1)) := by simpa using hw.text 0 (by simp)
  have k1 : w.cell? ⟨g, off + 1, none⟩ = some (.int .i64 x.2.1) := by simpa using hw.pos 0 (by simp)
  have k2 : w.cell? ⟨g, off + 2, none⟩ = some (.bool x.2.2) := by simpa using hw.fst 0 (by simp)
  simp only [List.length_cons] at h0 hcl
  obtain ⟨xt, xp, xf⟩ := x
  simp only at HT k0 k1 k2 hx
  generalize ((xp : Nat) : Int) = xq at *
  generalize strOfNums xt = xs at *
  generalize ws.length = n at *
  have hn1 : ((n : Int) + 1 == 0) = false := by simp; omega
  clear hS hf hw hg
  have HX := Lib.hid hx; clear hx
  cases xf <;> cases first
  all_goals first | exact absurd rfl HX.out | skip
  all_goals
    clear HX
    go_enter Tryd.func73, Tryd.ntmps73
    go_wp2_with (go_at_call 38; refine (HT.out _).mono ?_; rintro e1 w1 ⟨⟨ev, rfl, hat⟩, hb⟩; have hc := fun o => (bcell hb).1 w.heap.size o (by simp; omega); have hf := fun o => (bcell hb).2 w.heap.size o (by simp; omega))
    have HB0 : ∀ f, Below w.heap.size w ((w.alloc (.cells #[.string ⟨#[]⟩, .int .i64 0, .bool false] 91)).alloc (.cells #[.string xs, .int .i64 xq, .bool f] 91)) := fun f => ((Below.refl w.heap.size w).alloc (Nat.le_refl _) _).alloc (by simp) _
    exact bodyPost_ret (v := .tuple #[wordZ, ev]) (by simp [results, Tryd.results73, go_sem, wordZ, hc]) rfl ⟨ev, rfl, (((hat.set _ _ _ (by simp; omega)).set _ _ _ (by simp; omega)).set _ _ _ (by simp; omega)).mono (by simp; omega), ((((HB0 _).trans (hb.mono (by simp; omega))).setCell (by simp) _).setCell (by simp) _).setCell (by simp) _⟩

set_option maxHeartbeats 2000000 in
theorem next_ok (A : Nat → Addr) (p g : Nat) (e : Int) (first : Bool) (x : Wd) (ws : List Wd) (w : World) (h : RdM w p g e (x :: ws)) (hx : x.2.2 = first) :
    Calls Tryd.prog 73 #[.pointer (some ⟨p, 0, none⟩), .bool first] w (NextP A w p g e (.got x ws)) := by
  have HR := Lib.hid h
  obtain ⟨⟨a, c, h0, hcl, hcm, hg⟩, h1, hf, hpl, hgl, hgp⟩ := h
  obtain ⟨off, rfl, hw⟩ := hg.resolve_left (by simp)
  have k0 : w.cell? ⟨g, off, none⟩ = some (.string (strOfNums x.1)) := by simpa using hw.text 0 (by simp)
  have k1 : w.cell? ⟨g, off + 1, none⟩ = some (.int .i64 x.2.1) := by simpa using hw.pos 0 (by simp)
  have k2 : w.cell? ⟨g, off + 2, none⟩ = some (.bool x.2.2) := by simpa using hw.fst 0 (by simp)
  have HW := Lib.hid hw
  simp only [List.length_cons] at h0 hcl
  subst hx
  have HWV : Hid (wordV x = .agg #[.string (strOfNums x.1), .int .i64 (x.2.1 : Nat), .bool x.2.2]) := rfl
  have hne : (x.2.2 != x.2.2) = false := by simp
  generalize x.2.2 = xf at *
  generalize ((x.2.1 : Nat) : Int) = xq at *
  generalize strOfNums x.1 = xs at *
  have HF := Lib.hid (fun a c' ha hc1 hc2 => RdM.next HR.out h0 HW.out a ha c' hc1 hc2)
  generalize hnn : ws.length = n at *
  have HN := Lib.hid hnn; clear hnn
  have hn1 : ((n : Int) + 1 == 0) = false := by simp; omega
  clear hw hg
  go_enter Tryd.func73, Tryd.ntmps73
  go_wp2_with fail
  all_goals
    first
    | (obtain ⟨hr, hch⟩ := HF.out (some ⟨g, off + 3, none⟩) (c - 1) (.inl rfl) (by omega) (by omega); exact bodyPost_ret (v := .tuple #[wordV x, .nilIface]) (by simp [results, Tryd.results73, go_sem, HWV.out]) rfl ⟨rfl, hr.chg (((Below.refl _ _).alloc (Nat.le_refl _) _).alloc (by simp) _), (hch.alloc _).alloc _⟩)
    | (obtain ⟨hr, hch⟩ := HF.out (some ⟨g, off, none⟩) 0 (.inr (by omega)) (by omega) (by omega); exact bodyPost_ret (v := .tuple #[wordV x, .nilIface]) (by simp [results, Tryd.results73, go_sem, HWV.out]) rfl ⟨rfl, hr.chg (((Below.refl _ _).alloc (Nat.le_refl _) _).alloc (by simp) _), (hch.alloc _).alloc _⟩)
end Go.Proofs.YtfkodpglgeghlaaDoor
