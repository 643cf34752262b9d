/- Contracts of strings.HasPrefix at one byte, of the reader's number and just. Conditions: the reader lies as 'RdM' says, its words are some bytes each; the errors lie as 'Sents' says. -/
import Derived.Test.YtfkodpglgeghlaaDoorNxt
namespace Go.Proofs.YtfkodpglgeghlaaDoor
open Go.RowKit

theorem str_one {xs : List Int} (cb : UInt8) (hb : Bts xs) (h : xs ≠ []) : (((strOfNums xs).extract 0 1).toList == [cb]) = decide (xs.head? = some (cb.toNat : Int)) := by
  rw [str_extract, str_toList]
  cases xs with
  | nil => exact absurd rfl h
  | cons x t =>
    have := hb x (by simp)
    by_cases e : x = (cb.toNat : Int)
    · subst e; simp
    · have hx : UInt8.ofNat x.toNat ≠ cb := fun h' => by
        have h1 := u8_back this.1 this.2
        rw [h'] at h1
        exact e h1.symm
      simp [e, hx]

set_option maxHeartbeats 1000000 in
theorem ihasPrefix_any (cb : UInt8) (xs : List Int) (w : World) (hb : Bts xs) (h : xs ≠ []) (hn : xs.length ≤ 4000000) :
    Calls Tryd.prog 84 #[.string (strOfNums xs), .string ⟨#[cb]⟩] w fun r w' => r = .returned (.bool (decide (xs.head? = some (cb.toNat : Int)))) ∧ w = w' := by
  have hs : (strOfNums xs).size = xs.length := strOfNums_size xs
  have hpos : 0 < xs.length := List.length_pos_iff.2 h
  have hf := str_one cb hb h
  generalize decide (xs.head? = some (cb.toNat : Int)) = r at *
  generalize strOfNums xs = s at *
  generalize xs.length = n at *
  have hge : decide ((1 : Int) ≤ n) = true := by simp; omega
  clear hb h
  go_enter Tryd.func84, Tryd.ntmps84
  go_wp2_with fail
  go_ret
  exact ⟨rfl, rfl⟩

set_option maxHeartbeats 1000000 in
theorem hasPrefix_any (cb : UInt8) (xs : List Int) (w : World) (hb : Bts xs) (h : xs ≠ []) (hn : xs.length ≤ 4000000) :
    Calls Tryd.prog 76 #[.string (strOfNums xs), .string ⟨#[cb]⟩] w fun r w' => r = .returned (.bool (decide (xs.head? = some (cb.toNat : Int)))) ∧ w = w' := by
  have HI := Lib.hid (fun W => ihasPrefix_any cb xs W hb h hn)
  clear hb h hn
  generalize decide (xs.head? = some (cb.toNat : Int)) = r at *
  generalize strOfNums xs = s at *
  go_enter Tryd.func76, Tryd.ntmps76
  go_wp2_with (go_at_call 84; refine (HI.out _).mono ?_; rintro e w3 ⟨rfl, rfl⟩)
  go_ret
  exact ⟨rfl, rfl⟩

theorem next_all (A : Nat → Addr) (p g : Nat) (e : Int) (first : Bool) (ws : List Wd) (w : World) (h : RdM w p g e ws) (hS : SentsP A p w) :
    Calls Tryd.prog 73 #[.pointer (some ⟨p, 0, none⟩), .bool first] w (NextP A w p g e (nextR first e ws)) := by
  cases ws with
  | nil => exact next_end A p g e first w h hS
  | cons x ws =>
    by_cases hx : x.2.2 = first
    · rw [nextR_ok hx]; exact next_ok A p g e first x ws w h hx
    · rw [nextR_bad hx]; exact next_bad A p g e first x ws w h hS hx

/-- What stores into a result's cells leave, behind allocs too. -/
theorem fin2 {W : World} {q : Nat} {u v : Value} (h0 : W.cell? ⟨q, 0, none⟩ = some u) (h1 : W.cell? ⟨q, 1, none⟩ = some v) (x y : Value) :
    ((W.setCell ⟨q, 0, none⟩ x).setCell ⟨q, 1, none⟩ y).cell? ⟨q, 0, none⟩ = some x ∧ ((W.setCell ⟨q, 0, none⟩ x).setCell ⟨q, 1, none⟩ y).cell? ⟨q, 1, none⟩ = some y ∧
    ∀ o, (((W.setCell ⟨q, 0, none⟩ x).setCell ⟨q, 1, none⟩ y).alloc o).cell? ⟨q, 0, none⟩ = some x ∧ (((W.setCell ⟨q, 0, none⟩ x).setCell ⟨q, 1, none⟩ y).alloc o).cell? ⟨q, 1, none⟩ = some y ∧
      ∀ o', ((((W.setCell ⟨q, 0, none⟩ x).setCell ⟨q, 1, none⟩ y).alloc o).alloc o').cell? ⟨q, 0, none⟩ = some x ∧ ((((W.setCell ⟨q, 0, none⟩ x).setCell ⟨q, 1, none⟩ y).alloc o).alloc o').cell? ⟨q, 1, none⟩ = some y := by
  have a0 : ((W.setCell ⟨q, 0, none⟩ x).setCell ⟨q, 1, none⟩ y).cell? ⟨q, 0, none⟩ = some x := (set_off (.inr (by decide))).trans (set_at h0)
  have a1 : ((W.setCell ⟨q, 0, none⟩ x).setCell ⟨q, 1, none⟩ y).cell? ⟨q, 1, none⟩ = some y := set_at ((set_off (.inr (by decide))).trans h1)
  generalize (W.setCell ⟨q, 0, none⟩ x).setCell ⟨q, 1, none⟩ y = V at *
  have hl := World.block_lt_of_cell? V _ a0
  have k : ∀ i z o, V.cell? ⟨q, i, none⟩ = some z → (V.alloc o).cell? ⟨q, i, none⟩ = some z := fun i z o h => ((((Below.refl _ V).alloc (Nat.le_refl _) o).cell (p := ⟨q, i, none⟩) hl)).trans h
  have k2 : ∀ i z o o', V.cell? ⟨q, i, none⟩ = some z → ((V.alloc o).alloc o').cell? ⟨q, i, none⟩ = some z := fun i z o o' h => (((((Below.refl _ V).alloc (Nat.le_refl _) o).alloc (by simp) o').cell (p := ⟨q, i, none⟩) hl)).trans h
  exact ⟨a0, a1, fun o => ⟨k _ _ o a0, k _ _ o a1, fun o' => ⟨k2 _ _ o o' a0, k2 _ _ o o' a1⟩⟩⟩

def cntV (n k : Int) : Value := .agg #[.int .i64 n, .int .i64 k]
def NumbP (A : Nat → Addr) (w : World) (p g : Nat) (e : Int) (R : Rd (Int × Int)) (r : Ending) (w' : World) : Prop :=
  match R with
  | .bad k => ∃ ev, r = .returned (.tuple #[cntV 0 0, ev]) ∧ AtB A w.heap.size w' ev k 0 ∧ Chg [p] w w'
  | .got y ws => r = .returned (.tuple #[cntV y.1 y.2, .nilIface]) ∧ RdM w' p g e ws ∧ Chg [p] w w'

set_option maxHeartbeats 2000000 in
theorem numb_next (A : Nat → Addr) (p g : Nat) (e most : Int) (first : Bool) (ws : List Wd) (w : World) (h : RdM w p g e ws) (hS : SentsP A p w) (k : Int) (hR : nextR first e ws = .bad k) :
    Calls Tryd.prog 57 #[.pointer (some ⟨p, 0, none⟩), .bool first, .int .i64 most] w (NumbP A w p g e (.bad k)) := by
  have HB0 := Lib.hid ((Below.refl w.heap.size w).alloc (Nat.le_refl _) (.cells #[.int .i64 0, .int .i64 0] 94))
  have HN := Lib.hid (next_all A p g e first ws _ (h.chg HB0.out) (hS.chg (Chg.of_below HB0.out)))
  rw [hR] at HN
  clear h hS hR
  go_enter Tryd.func57, Tryd.ntmps57
  go_wp2_with fail
  refine HN.out.mono ?_
  rintro e1 w1 ⟨ev, rfl, hat, hb⟩
  have HAT := Lib.hid hat
  obtain ⟨b, hB, rfl, k0, k1⟩ := hat
  have hc := fun o => (bcell hb).1 w.heap.size o (by simp)
  have hf := fun o => (bcell hb).2 w.heap.size o (by simp)
  have hs1 : w.heap.size < w1.heap.size := by have := hb.size; simp at this; omega
  have HB := Lib.hid hb
  have hfin := fin2 (W := w1) (q := w.heap.size) (u := .int .i64 0) (v := .int .i64 0) (by rw [hc]; simp) (by rw [hc]; simp)
  unfold wordZ
  clear k0 k1 hb
  go_wp2_with fail
  exact bodyPost_ret (v := .tuple #[cntV 0 0, .iface 73 (.pointer (some ⟨b, 0, none⟩))]) (by simp [results, Tryd.results57, go_sem, cntV, hfin]) rfl ⟨_, rfl, ((((HAT.out.set _ _ _ (by simp)).set _ _ _ (by simp)).keep ((Below.refl _ _).alloc (Nat.le_refl _) _)).mono (by simp)), Chg.of_below ((((HB0.out.trans (HB.out.mono (by simp))).setCell (by simp) _).setCell (by simp) _).alloc (by simp; omega) _)⟩
end Go.Proofs.YtfkodpglgeghlaaDoor
