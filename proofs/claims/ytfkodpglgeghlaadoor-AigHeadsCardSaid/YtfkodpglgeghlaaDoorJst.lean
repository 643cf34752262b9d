/- Contracts of the reader's number, just, gate, behind. Conditions: the reader lies as 'RdM' says, its words are some bytes each; the errors lie as 'Sents' says. -/
import Derived.Test.YtfkodpglgeghlaaDoorNbs
namespace Go.Proofs.YtfkodpglgeghlaaDoor
open Go.RowKit

theorem WOk.tail {x : Wd} {ws : List Wd} (h : WOk (x :: ws)) : WOk ws := fun y hy => h y (by simp [hy])
theorem numb_any (A : Nat → Addr) (p g : Nat) (e most : Int) (first : Bool) (ws : List Wd) (w : World) (h : RdM w p g e ws) (hS : SentsP A p w) (hok : WOk ws) :
    Calls Tryd.prog 57 #[.pointer (some ⟨p, 0, none⟩), .bool first, .int .i64 most] w (NumbP A w p g e (numbR first most e ws)) := by
  cases hR : nextR first e ws with
  | bad k => rw [numbR_next_bad hR]; exact numb_next A p g e most first ws w h hS k hR
  | got x ws' =>
    cases ws with
    | nil => cases hR
    | cons y ws =>
      have hx : y.2.2 = first := by
        by_cases hx : y.2.2 = first
        · exact hx
        · rw [nextR_bad hx] at hR; cases hR
      exact numb_word A p g e most first y ws w h hS hx (hok y (by simp))
theorem Chg.still {p : Nat} {w a b : World} (h : Chg [p] w a) (hb : Below a.heap.size a b) : Chg [p] w b := h.trans (T := [p]) (Chg.of_below hb) (Fresh.refl _ _)
theorem Chg.more {p : Nat} {w a b : World} (h : Chg [p] w a) (k : Chg [p] a b) : Chg [p] w b := h.trans k (Fresh.refl _ _)
theorem Chg.old {p : Nat} {w0 w a : World} (hb : Below w0.heap.size w0 w) (k : Chg [p] w a) : Chg [p] w0 a := (Chg.of_below hb).trans k (fun _ hi => .inl hi)

def JustP (A : Nat → Addr) (w : World) (p g : Nat) (e : Int) (R : Rd Unit) (r : Ending) (w' : World) : Prop :=
  match R with
  | .bad k => ∃ ev, r = .returned ev ∧ AtB A w.heap.size w' ev k 0 ∧ Chg [p] w w'
  | .got _ ws => r = .returned .nilIface ∧ RdM w' p g e ws ∧ Chg [p] w w'

set_option maxHeartbeats 2000000 in
theorem just_any (A : Nat → Addr) (p g : Nat) (e n : Int) (ws : List Wd) (w : World) (h : RdM w p g e ws) (hS : SentsP A p w) (hok : WOk ws) :
    Calls Tryd.prog 56 #[.pointer (some ⟨p, 0, none⟩), .int .i64 n] w (JustP A w p g e (justR n e ws)) := by
  have HN := Lib.hid (numb_any A p g e n true ws w h hS hok)
  have HSP := Lib.hid (fun W (hW : Chg [p] w W) => (hS.chg hW).here)
  clear hS h hok
  cases hR : numbR true n e ws with
  | bad k =>
    rw [justR_bad hR]
    rw [hR] at HN
    go_enter Tryd.func56, Tryd.ntmps56
    go_wp2_with fail
    refine HN.out.mono ?_
    rintro e1 w1 ⟨ev, rfl, hat, hch⟩
    have HAT := Lib.hid hat
    obtain ⟨b, hB, rfl, k0, k1⟩ := hat
    clear k0 k1
    unfold cntV
    go_wp2_with fail
    go_ret
    exact ⟨_, rfl, HAT.out.keep ((Below.refl _ _).alloc (Nat.le_refl _) _), hch.alloc _⟩
  | got y ws' =>
    rw [hR] at HN
    have HT := Lib.hid (fun W => at_any A y.2 0 W)
    by_cases hy : y.1 = n
    · rw [justR_ok hR hy]
      subst hy
      have hne : (y.1 != y.1) = false := by simp
      go_enter Tryd.func56, Tryd.ntmps56
      go_wp2_with fail
      refine HN.out.mono ?_
      rintro e1 w1 ⟨rfl, hr, hch⟩
      unfold cntV
      go_wp2_with fail
      go_ret
      exact ⟨rfl, hr.chg ((Below.refl _ _).alloc (Nat.le_refl _) _), hch.alloc _⟩
    · rw [justR_other hR hy]
      have hne : (y.1 != n) = true := by simpa using hy
      have HY := Lib.hid hy; clear hy
      obtain ⟨yn, y2⟩ := y
      simp only at hne HT HN
      go_enter Tryd.func56, Tryd.ntmps56
      go_wp2_with fail
      refine HN.out.mono ?_
      rintro e1 w1 ⟨rfl, hr, hch⟩
      have hx0 := (HSP.out w1 hch).c0
      have hxl : 1 < w1.heap.size := World.block_lt_of_cell? w1 _ hx0
      have hz0 : 0 < w1.heap.size := by omega
      have hsz := hch.size
      clear hr
      unfold cntV
      go_wp2_with (go_at_call 38; refine (HT.out _).mono ?_; rintro e3 w3 ⟨⟨ev, rfl, hat⟩, hb3⟩)
      go_ret
      exact ⟨_, rfl, hat.mono (by simp; omega), (hch.alloc _).still hb3⟩
end Go.Proofs.YtfkodpglgeghlaaDoor
