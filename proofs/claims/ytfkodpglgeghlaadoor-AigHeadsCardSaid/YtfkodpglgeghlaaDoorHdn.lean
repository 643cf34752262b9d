/- Contract of the reader's head, behind its first word. Conditions: the reader lies as 'RdM' says, its words are some bytes each; the errors lie as 'Sents' says. -/
import Derived.Test.YtfkodpglgeghlaaDoorHdm
namespace Go.Proofs.YtfkodpglgeghlaaDoor
open Go.RowKit

theorem str_ne {xs ys : List Int} (hx : Bts xs) (hy : Bts ys) (h : xs ≠ ys) : ((strOfNums xs).toList == (strOfNums ys).toList) = false := by
  have : (strOfNums xs).toList ≠ (strOfNums ys).toList := fun e => h (str_inj hx hy e)
  simpa using this
theorem aag_bts : Bts [97, 97, 103] := by intro x hx; simp at hx; omega
theorem aag_toList : (strOfNums [97, 97, 103]).toList = [97, 97, 103] := by rw [str_toList]; rfl
theorem aag_str : strOfNums [97, 97, 103] = ⟨#[97, 97, 103]⟩ := rfl

set_option maxHeartbeats 4000000 in
theorem head_name (A : Nat → Addr) (p g : Nat) (e : Int) (x : Wd) (ws : List Wd) (w : World) (h : RdM w p g e (x :: ws)) (hS : SentsP A p w) (hx : x.2.2 = true) (hok : Bts x.1) (hne : x.1 ≠ [97, 97, 103]) :
    Calls Tryd.prog 55 #[.pointer (some ⟨p, 0, none⟩)] w (HeadP A w p g e (.bad x.2.1)) := by
  have hpl : p < w.heap.size := h.2.2.2.1
  have HB0 := Lib.hid ((Below.refl w.heap.size w).alloc (Nat.le_refl _) zero10)
  have HN := Lib.hid (next_ok A p g e true x ws _ (h.chg HB0.out) hx)
  have HC0 := Lib.hid (HC.start w 96)
  have hnb := str_ne hok aag_bts hne
  rw [aag_toList] at hnb
  have HSP := Lib.hid (fun W (hW : Chg [p] w W) => (hS.chg hW).here)
  have HT := Lib.hid (fun W => at_any A x.2.1 0 W)
  have HWV : Hid (wordV x = .agg #[.string (strOfNums x.1), .int .i64 (x.2.1 : Nat), .bool x.2.2]) := rfl
  clear h hS hok hne hx
  generalize ((x.2.1 : Nat) : Int) = xq at *
  generalize strOfNums x.1 = xs at *
  generalize x.2.2 = xf at *
  unfold zero10 at *
  go_enter Tryd.func55, Tryd.ntmps55
  go_wp2_with fail
  refine HN.out.mono ?_
  rintro e1 w1 ⟨rfl, hr, hch⟩
  rw [HWV.out]
  have hcw := Chg.old HB0.out hch
  have hsz := hch.size
  simp at hsz
  have hx0 := (HSP.out w1 hcw).c0
  have hxl : 1 < w1.heap.size := World.block_lt_of_cell? w1 _ hx0
  have hz0 : 0 < w1.heap.size := by omega
  have HQ := Lib.hid (HC0.out.chg hch (by simp; omega))
  have hs1 := HQ.out.2.2
  clear hr
  have hTC : ∀ w3, Below (w1.alloc (.cells #[.string xs, .int .i64 xq, .bool xf] 91)).heap.size (w1.alloc (.cells #[.string xs, .int .i64 xq, .bool xf] 91)) w3 → HC w3 w.heap.size [] ∧ Chg [p] w w3 := fun w3 hb3 => ⟨(HQ.out.chg (S := []) (Chg.of_below ((Below.refl _ _).alloc (Nat.le_refl _) _)) (by simp)).chg (S := []) (Chg.of_below hb3) (by simp), (hcw.alloc _).still hb3⟩
  have HTC := Lib.hid hTC; clear hTC
  go_wp2_with fail
  refine (HT.out _).mono ?_
  rintro e3 w3 ⟨⟨ev, rfl, hat⟩, hb3⟩
  obtain ⟨hq3, hc3⟩ := HTC.out w3 hb3
  have HQ3 := Lib.hid hq3
  obtain ⟨hc, hf, hs3⟩ := hq3
  have c0 := hc 0 (by decide)
  have c1 := hc 1 (by decide)
  have c2 := hc 2 (by decide)
  have c3 := hc 3 (by decide)
  have c4 := hc 4 (by decide)
  simp [hn, hp] at c0 c1 c2 c3 c4
  have HAT := Lib.hid hat
  have HC3 := Lib.hid hc3
  clear hc hat hc3 hch hcw hb3
  go_wp2_with fail
  exact bodyPost_ret (v := .tuple #[headV [], ev]) (res10 (set10_cells (hs := []) HQ3.out) rfl rfl) rfl
    ⟨_, rfl, (set10_at (hs := []) HAT.out (by simp; omega)).mono (by simp; omega), set10_chg (hs := []) HC3.out (.inr (Nat.le_refl _))⟩

theorem fiveR_bound {e : Int} : ∀ (k : Nat) (ws : List Wd) (hs r : List (Int × Int)) (ws' : List Wd), (∀ j, 0 ≤ hn hs j ∧ hn hs j < 1000000000) → WOk ws → fiveR e k ws hs = .got r ws' → (∀ j, 0 ≤ hn r j ∧ hn r j < 1000000000) ∧ WOk ws'
  | 0, ws, hs, r, ws', h, hok, hf => by
    injection hf with h1 h2
    subst h1; subst h2; exact ⟨h, hok⟩
  | k + 1, ws, hs, r, ws', h, hok, hf => by
    unfold fiveR at hf
    cases hb : numbR false maxI e ws with
    | bad q => rw [hb] at hf; cases hf
    | got y w1 =>
      rw [hb] at hf
      obtain ⟨h1, h2, h3, _⟩ := numbR_rest hb hok
      refine fiveR_bound k w1 (hs ++ [y]) r ws' (fun j => ?_) h1 hf
      rw [hn_snoc]
      split
      · exact ⟨h2, h3⟩
      · exact h j

end Go.Proofs.YtfkodpglgeghlaaDoor
