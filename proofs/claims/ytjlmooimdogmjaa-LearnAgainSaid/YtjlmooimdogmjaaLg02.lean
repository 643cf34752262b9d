/- Words on values of variables in memory: a pointer to a struct of one field, a slice of ints ('Asg'), and what writing one of them leaves as it was. Holds for every world; no conditions beyond those typed. · Contracts of the small methods of assign.Assign: is, Value, Set, Unset, and of assign.opposite, over values in memory. Conditions: the literals lie strictly inside the 64 bits. · The contract of assign.Assign.Clause: what a clause is worth and the one literal of it that is not false. Conditions: the literals lie strictly inside the 64 bits. · Plain facts on what a clause is worth: true, false, not known, and the one literal that is not false. Holds for all lists; no conditions beyond those typed. -/
import Derived.Test.YtjlmooimdogmjaaLg00
import Derived.Test.YtjlmooimdogmjaaLg01
import Derived.Test.YtjlmooimdogmjaaChecked
import Derived.IntWalk
set_option linter.unusedVariables false
set_option linter.unusedSimpArgs false
namespace Go.Proofs.Ytjlmooimdogmjaa
open Go.RowKit

structure Asg (w : World) (B : Nat) (v : Value) (p q : Nat) (V : List Int) : Prop where
  val : v = .pointer (some ⟨p, 0, none⟩)
  bp : B ≤ p
  bq : B ≤ q
  ne : p ≠ q
  sp : p < w.heap.size
  sq : q < w.heap.size
  vals : Vals V
  head : w.cell? ⟨p, 0, none⟩ = some (.slice (some ⟨q, 0, none⟩) V.length V.length)
  cells : ∀ i, i < V.length → w.cell? ⟨q, i, none⟩ = some (.int .i64 (V.getD i 0))
  free : ∀ i, w.frozen? ⟨q, i, none⟩ = false

theorem Asg.keepB {w w' : World} {B : Nat} {v : Value} {p q : Nat} {V : List Int} (h : Asg w B v p q V) (hs : w.heap.size ≤ w'.heap.size) (h1 : w'.heap[p]? = w.heap[p]?) (h2 : w'.heap[q]? = w.heap[q]?) : Asg w' B v p q V where
  val := h.val
  bp := h.bp
  bq := h.bq
  ne := h.ne
  sp := Nat.lt_of_lt_of_le h.sp hs
  sq := Nat.lt_of_lt_of_le h.sq hs
  vals := h.vals
  head := (World.cell?_of_block (a := ⟨p, 0, none⟩) h1).trans h.head
  cells := fun i hi => (World.cell?_of_block (a := ⟨q, i, none⟩) h2).trans (h.cells i hi)
  free := fun i => (World.frozen?_of_block (a := ⟨q, i, none⟩) h2).trans (h.free i)
theorem Asg.keep {w w' : World} {B : Nat} {v : Value} {p q : Nat} {V : List Int} (h : Asg w B v p q V) (hb : Below w.heap.size w w') : Asg w' B v p q V :=
  h.keepB hb.size (hb.block p h.sp) (hb.block q h.sq)
theorem Asg.base {w : World} {B B' : Nat} {v : Value} {p q : Nat} {V : List Int} (h : Asg w B v p q V) (hb : B' ≤ B) : Asg w B' v p q V :=
  ⟨h.val, Nat.le_trans hb h.bp, Nat.le_trans hb h.bq, h.ne, h.sp, h.sq, h.vals, h.head, h.cells, h.free⟩

/-- Of what was there, only block q may have turned. -/
def Only (q : Nat) (w w' : World) : Prop := w.grownBy w' (some q)
theorem Only.refl (q : Nat) (w : World) : Only q w w := ⟨rfl, rfl, rfl, Nat.le_refl _, fun _ _ _ => rfl⟩
theorem Only.trans {q : Nat} {a b c : World} (h : Only q a b) (k : Only q b c) : Only q a c :=
  ⟨k.os.trans h.os, k.tape.trans h.tape, k.output.trans h.output, Nat.le_trans h.size k.size, fun i hi hn => (k.block i (Nat.lt_of_lt_of_le hi h.size) hn).trans (h.block i hi hn)⟩
theorem Only.of_below {q : Nat} {w w' : World} (h : Below w.heap.size w w') : Only q w w' := ⟨h.os, h.tape, h.output, h.size, fun i hi _ => h.block i hi⟩
theorem Only.setCell (w : World) (q m : Nat) (u : Value) : Only q w (w.setCell ⟨q, m, none⟩ u) :=
  ⟨rfl, rfl, rfl, by simp [World.setCell], fun k _ hn => Below.heap_setCell _ _ _ _ (fun e => hn (by rw [e]))⟩
theorem Only.below {q B : Nat} {w0 w w' : World} (h : Only q w w') (hb : Below B w0 w) (hB : B ≤ w.heap.size) (hq : B ≤ q) : Below B w0 w' :=
  hb.grown h hB (fun k hk => by injection hk with e; omega)
theorem Only.below' {q : Nat} {w w' : World} (h : Only q w w') {B : Nat} (hB : B ≤ w.heap.size) (hq : B ≤ q) : Below B w w' := h.below (Below.refl _ _) hB hq
/-- Values elsewhere stay. -/
theorem Asg.other {w w' : World} {B : Nat} {v : Value} {p q q' : Nat} {V : List Int} (h : Asg w B v p q V) (ho : Only q' w w') (hp : p ≠ q') (hq : q ≠ q') : Asg w' B v p q V :=
  h.keepB ho.size (ho.block p h.sp (fun e => by injection e with e; exact hp e)) (ho.block q h.sq (fun e => by injection e with e; exact hq e))
theorem own_other {w w' : World} {B : Nat} {e : TypeId} {size : Nat} {v : Value} {n q' : Nat} {xs : List Value} (h : w.ownsRow B e size v n xs) (ho : Only q' w w') (hq : v.ownBlock ≠ some q') : w'.ownsRow B e size v n xs := by
  obtain ⟨h1, h2⟩ := h
  refine ⟨h1, ?_⟩
  rcases h2 with h2 | ⟨g, cap, cur, hv, hg, hh, r⟩
  · exact .inl h2
  · have hlt : g < w.heap.size := by
      rcases Nat.lt_or_ge g w.heap.size with h' | h'
      · exact h'
      · rw [Array.getElem?_eq_none h'] at hh; cases hh
    subst hv
    exact .inr ⟨g, cap, cur, rfl, hg, (ho.block g hlt (fun e => hq (by simpa [Value.ownBlock] using e))).trans hh, r⟩

theorem Asg.set {w : World} {B : Nat} {v : Value} {p q : Nat} {V : List Int} (h : Asg w B v p q V) (m : Nat) (x : Int) (_hm : m < V.length) (h0 : m = 0 → x = 0) (hx : x = 0 ∨ x = 1 ∨ x = 2) :
    Asg (w.setCell ⟨q, m, none⟩ (.int .i64 x)) B v p q (V.set m x) where
  val := h.val
  bp := h.bp
  bq := h.bq
  ne := h.ne
  sp := by simpa [World.setCell] using h.sp
  sq := by simpa [World.setCell] using h.sq
  vals := h.vals.set m x h0 hx
  head := by
    rw [World.cell?_of_block (a := ⟨p, 0, none⟩) (Below.heap_setCell w ⟨q, m, none⟩ (.int .i64 x) p h.ne), h.head]
    simp
  cells := fun i hi => by
    have hi' : i < V.length := by simpa using hi
    rw [getD_set]
    by_cases e : m = i
    · subst e
      rw [if_pos ⟨rfl, hi'⟩]
      exact World.cell?_setCell_same (w := w) (h := h.cells m hi') ..  
    · rw [if_neg (fun hh => e hh.1), ← h.cells i hi']
      exact World.cell?_setCell_other (w := w) (h := fun hh => e (by injection hh)) ..
  free := fun i => (World.frozen?_setCell _ _ _ _).trans (h.free i)
end Go.Proofs.Ytjlmooimdogmjaa

namespace Go.Proofs.Ytjlmooimdogmjaa
open Go.RowKit

set_option maxHeartbeats 400000 in
theorem opposite_any (x : Int) (w : World) :
    Calls Try.prog 64 #[.int .i64 x] w fun e w' => e = .returned (.int .i64 (opp x)) ∧ w = w' := by
  unfold opp
  by_cases h1 : x = 1
  · subst h1
    go_enter Try.func64, Try.ntmps64
    go_wp2
    go_ret
    exact ⟨rfl, rfl⟩
  · by_cases h2 : x = 2
    · subst h2
      go_enter Try.func64, Try.ntmps64
      go_wp2
      go_ret
      exact ⟨rfl, rfl⟩
    · rw [if_neg h1, if_neg h2]
      have h1b : (x == 1) = false := by simp [h1]
      have h2b : (x == 2) = false := by simp [h2]
      go_enter Try.func64, Try.ntmps64
      go_wp2
      go_ret
      exact ⟨rfl, rfl⟩

theorem plc_absI (l : Int) : (plc l : Int) = absI l := by unfold plc; have := absI_pos l; omega
theorem isB_right (V : List Int) (l : Int) : (decide (1 ≤ absI l) && decide (absI l ≤ (V.length : Int) - 1)) = rightB V l := by
  have e := plc_absI l
  unfold rightB
  rw [← e]
  congr 1
  · simp; omega
  · simp; omega

set_option maxHeartbeats 400000 in
theorem asgIs_any {w : World} {B : Nat} {v : Value} {p q : Nat} {V : List Int} (h : Asg w B v p q V) (l : Int) (h1 : -9223372036854775807 ≤ l) (h2 : l ≤ 9223372036854775807) :
    Calls Try.prog 63 #[v, .int .i64 l] w fun e w' => e = .returned (.bool (rightB V l)) ∧ w = w' := by
  have H := Lib.hid (is_any l ((V.length : Int) - 1) w h1 h2)
  have HB := Lib.hid (isB_right V l)
  have hlen := h.vals.len
  have hpos := h.vals.pos
  have g0 := h.head
  obtain rfl := h.val
  clear h
  generalize rightB V l = r at *
  generalize V.length = n at *
  go_enter Try.func63, Try.ntmps63
  go_wp2_with (go_at_call 66; refine H.out.mono ?_; rintro e w' ⟨rfl, rfl⟩)
  go_ret
  exact ⟨ret_bool HB.out, rfl⟩

theorem valL_at {V : List Int} {l : Int} {m : Nat} (hm : plc l = m) (h1 : 1 ≤ m) (h2 : m < V.length) : valL V l = if 0 < l then V.getD m 0 else opp (V.getD m 0) := by
  unfold valL; rw [if_pos (by rw [rightB_iff]; omega), hm]
theorem valL_not {V : List Int} {l : Int} (h : rightB V l = false) : valL V l = 0 := by
  unfold valL; rw [if_neg (by rw [h]; simp)]
theorem plc_pos {l : Int} (h : 0 < l) : (plc l : Int) = l := by rw [plc_absI]; unfold absI; rw [if_neg (by omega)]
theorem plc_neg {l : Int} (h : l < 0) : (plc l : Int) = -l := by rw [plc_absI]; unfold absI; rw [if_pos h]
theorem plc_zero : plc 0 = 0 := by unfold plc absI; simp

set_option maxHeartbeats 1000000 in
theorem value_any {w : World} {B : Nat} {v : Value} {p q : Nat} {V : List Int} (h : Asg w B v p q V) (l : Int) (h1 : -9223372036854775807 ≤ l) (h2 : l ≤ 9223372036854775807) :
    Calls Try.prog 37 #[v, .int .i64 l] w fun e w' => e = .returned (.int .i64 (valL V l)) ∧ w = w' := by
  have H := Lib.hid (asgIs_any h l h1 h2)
  have HO := Lib.hid opposite_any
  have hlen := h.vals.len
  have g0 := h.head
  have HC := Lib.hid h.cells
  obtain rfl := h.val
  clear h
  by_cases hr : rightB V l = true
  · rw [hr] at H
    rw [rightB_iff] at hr
    obtain ⟨hr1, hr2⟩ := hr
    by_cases hl : 0 < l
    · have hm := plc_pos hl
      have HV := Lib.hid (valL_at (V := V) (l := l) rfl hr1 hr2)
      generalize plc l = m at *
      rw [if_pos hl] at HV
      subst hm
      have g1 := HC.out m hr2
      generalize V.getD m 0 = x at *
      generalize V.length = n at *
      go_enter Try.func37, Try.ntmps37
      go_wp2_with (go_at_call 63; refine H.out.mono ?_; rintro e w' ⟨rfl, rfl⟩)
      go_ret
      exact ⟨ret_int HV.out.symm, rfl⟩
    · have hl' : l < 0 := by
        have : l ≠ 0 := fun e => by subst e; rw [plc_zero] at hr1; omega
        omega
      have hm := plc_neg hl'
      have HV := Lib.hid (valL_at (V := V) (l := l) rfl hr1 hr2)
      generalize plc l = m at *
      rw [if_neg hl] at HV
      obtain rfl : l = -(m : Int) := by omega
      have g1 := HC.out m hr2
      generalize V.getD m 0 = x at *
      generalize V.length = n at *
      clear hm
      go_enter Try.func37, Try.ntmps37
      go_wp2_with (first | (go_at_call 63; refine H.out.mono ?_; rintro e w' ⟨rfl, rfl⟩) | (go_at_call 64; refine (HO.out _ _).mono ?_; rintro e w' ⟨rfl, rfl⟩))
      go_ret
      exact ⟨ret_int HV.out.symm, rfl⟩
  · have hr' : rightB V l = false := by simpa using hr
    rw [hr'] at H
    rw [valL_not hr']
    clear hr hr'
    generalize V.length = n at *
    go_enter Try.func37, Try.ntmps37
    go_wp2_with (go_at_call 63; refine H.out.mono ?_; rintro e w' ⟨rfl, rfl⟩)
    go_ret
    exact ⟨rfl, rfl⟩

def SetPost (w : World) (B : Nat) (v : Value) (p q : Nat) (V : List Int) (l : Int) (e : Ending) (w' : World) : Prop :=
  e = .returned (.bool (setOk V l)) ∧ Asg w' B v p q (setV V l) ∧ Only q w w'
theorem setOk_right {V : List Int} {l : Int} (h : rightB V l = false) : setOk V l = false := by unfold setOk; rw [h]; rfl

set_option maxHeartbeats 1000000 in
theorem set_any {w : World} {B : Nat} {v : Value} {p q : Nat} {V : List Int} (h : Asg w B v p q V) (l : Int) (h1 : -9223372036854775807 ≤ l) (h2 : l ≤ 9223372036854775807) :
    Calls Try.prog 78 #[v, .int .i64 l] w (SetPost w B v p q V l) := by
  have H := Lib.hid (asgIs_any h l h1 h2)
  have HV := Lib.hid (value_any h l h1 h2)
  have hlen := h.vals.len
  have g0 := h.head
  have HC := Lib.hid h.cells
  have HA := Lib.hid h
  have g2 := h.free (plc l)
  obtain rfl := h.val
  clear h
  by_cases hr : rightB V l = true
  · have HR := Lib.hid hr
    rw [hr] at H
    rw [rightB_iff] at hr
    obtain ⟨hr1, hr2⟩ := hr
    by_cases hv : valL V l = 2
    · have HK := Lib.hid (show setOk V l = false by unfold setOk; rw [HR.out, hv]; rfl)
      rw [hv] at HV
      clear hv g2
      go_enter Try.func78, Try.ntmps78
      go_wp2_with (first | (go_at_call 63; refine H.out.mono ?_; rintro e w' ⟨rfl, rfl⟩) | (go_at_call 37; refine HV.out.mono ?_; rintro e w' ⟨rfl, rfl⟩))
      go_ret
      exact ⟨ret_bool HK.out.symm, by unfold setV; rw [HK.out]; exact HA.out, Only.refl _ _⟩
    · have HK := Lib.hid (show setOk V l = true by unfold setOk; rw [HR.out]; simp [hv])
      have hvb : (valL V l == 2) = false := by simp [hv]
      generalize valL V l = x at *
      have HS := Lib.hid (show setV V l = V.set (plc l) (if 0 < l then 1 else 2) by unfold setV; rw [HK.out]; rfl)
      have HN := Lib.hid (fun (y : Int) hy => HA.out.set (plc l) y hr2 (fun e => by omega) hy)
      have g1 := HC.out _ hr2
      by_cases hl : 0 < l
      · have hm := plc_pos hl
        rw [if_pos hl] at HS
        generalize plc l = m at *
        subst hm
        clear hv
        generalize V.getD m 0 = y at *
        go_enter Try.func78, Try.ntmps78
        go_wp2_with (first | (go_at_call 63; refine H.out.mono ?_; rintro e w' ⟨rfl, rfl⟩) | (go_at_call 37; refine HV.out.mono ?_; rintro e w' ⟨rfl, rfl⟩))
        go_ret
        exact ⟨ret_bool HK.out.symm, by rw [HS.out]; exact HN.out 1 (by simp), Only.setCell _ _ _ _⟩
      · have hl' : l < 0 := by
          have : l ≠ 0 := fun e => by subst e; rw [plc_zero] at hr1; omega
          omega
        have hm := plc_neg hl'
        rw [if_neg hl] at HS
        generalize plc l = m at *
        obtain rfl : l = -(m : Int) := by omega
        clear hm hv
        generalize V.getD m 0 = y at *
        go_enter Try.func78, Try.ntmps78
        go_wp2_with (first | (go_at_call 63; refine H.out.mono ?_; rintro e w' ⟨rfl, rfl⟩) | (go_at_call 37; refine HV.out.mono ?_; rintro e w' ⟨rfl, rfl⟩))
        go_ret
        exact ⟨ret_bool HK.out.symm, by rw [HS.out]; exact HN.out 2 (by simp), Only.setCell _ _ _ _⟩
  · have hr' : rightB V l = false := by simpa using hr
    have HK := Lib.hid (setOk_right hr')
    rw [hr'] at H
    clear hr hr' g2
    go_enter Try.func78, Try.ntmps78
    go_wp2_with (go_at_call 63; refine H.out.mono ?_; rintro e w' ⟨rfl, rfl⟩)
    go_ret
    exact ⟨ret_bool HK.out.symm, by unfold setV; rw [HK.out]; exact HA.out, Only.refl _ _⟩

def UnsetPost (w : World) (B : Nat) (v : Value) (p q : Nat) (V : List Int) (l : Int) (e : Ending) (w' : World) : Prop :=
  e = .returned (.tuple #[]) ∧ Asg w' B v p q (unsetV V l) ∧ Only q w w'

set_option maxHeartbeats 1000000 in
theorem unset_any {w : World} {B : Nat} {v : Value} {p q : Nat} {V : List Int} (h : Asg w B v p q V) (l : Int) (h1 : -9223372036854775807 ≤ l) (h2 : l ≤ 9223372036854775807) :
    Calls Try.prog 40 #[v, .int .i64 l] w (UnsetPost w B v p q V l) := by
  have H := Lib.hid (asgIs_any h l h1 h2)
  have hlen := h.vals.len
  have g0 := h.head
  have HC := Lib.hid h.cells
  have HA := Lib.hid h
  have g2 := h.free l.toNat
  obtain rfl := h.val
  clear h
  by_cases hl : 0 < l
  · have hm := plc_pos hl
    by_cases hr : plc l < V.length
    · have hb : rightB V l = true := by rw [rightB_iff]; omega
      rw [hb] at H
      clear hb
      generalize plc l = m at *
      subst hm
      have HS := Lib.hid (show unsetV V (m : Int) = V.set m 0 by unfold unsetV; rw [if_pos ⟨hl, by simpa using hr⟩]; simp)
      have HN := Lib.hid (HA.out.set m 0 hr (fun _ => rfl) (.inl rfl))
      have g1 := HC.out _ hr
      simp only [Int.toNat_natCast] at g2
      generalize V.getD m 0 = y at *
      go_enter Try.func40, Try.ntmps40
      go_wp2_with (go_at_call 63; refine H.out.mono ?_; rintro e w' ⟨rfl, rfl⟩)
      (try simp only [Exit.inBlock, Exit.then]); refine bodyPost_end (results_none rfl _ _ _) rfl ?_
      exact ⟨rfl, by rw [HS.out]; exact HN.out, Only.setCell _ _ _ _⟩
    · have hb : rightB V l = false := by rw [← Bool.not_eq_true, rightB_iff]; omega
      rw [hb] at H
      have HS := Lib.hid (show unsetV V l = V by unfold unsetV; rw [if_neg (by omega)])
      clear hb g2 hm
      go_enter Try.func40, Try.ntmps40
      go_wp2_with (go_at_call 63; refine H.out.mono ?_; rintro e w' ⟨rfl, rfl⟩)
      (try simp only [Exit.inBlock, Exit.then]); refine bodyPost_end (results_none rfl _ _ _) rfl ?_
      exact ⟨rfl, by rw [HS.out]; exact HA.out, Only.refl _ _⟩
  · have HS := Lib.hid (show unsetV V l = V by unfold unsetV; rw [if_neg (by omega)])
    clear g2
    go_enter Try.func40, Try.ntmps40
    go_wp2
    (try simp only [Exit.inBlock, Exit.then]); refine bodyPost_end (results_none rfl _ _ _) rfl ?_
    exact ⟨rfl, by rw [HS.out]; exact HA.out, Only.refl _ _⟩
end Go.Proofs.Ytjlmooimdogmjaa

namespace Go.Proofs.Ytjlmooimdogmjaa
open Go.RowKit

/-- One literal more. -/
def cstep (V : List Int) (s : Int × Int × Bool) (l : Int) : Int × Int × Bool :=
  if valL V l = 0 then (0, l, s.2.2 || (decide (s.1 = 0) && !decide (l = s.2.1))) else s
def cfold (V : List Int) (c : List Int) : Int × Int × Bool := c.foldl (cstep V) (2, 0, false)
def hasTrue (V : List Int) (c : List Int) : Bool := c.any fun l => decide (valL V l = 1)
def clauseL (V : List Int) (c : List Int) : Int × Int :=
  if hasTrue V c = true then (1, 0) else ((cfold V c).1, if (cfold V c).2.2 = true then 0 else (cfold V c).2.1)
theorem cfold_succ (V c : List Int) (k : Nat) (h : k < c.length) : cfold V (c.take (k + 1)) = cstep V (cfold V (c.take k)) (c.getD k 0) := by
  unfold cfold; rw [take_snoc c k h, List.foldl_append]; rfl
theorem hasTrue_succ (V c : List Int) (k : Nat) (h : k < c.length) : hasTrue V (c.take (k + 1)) = (hasTrue V (c.take k) || decide (valL V (c.getD k 0) = 1)) := by
  unfold hasTrue; rw [take_snoc c k h, List.any_append]; simp
theorem hasTrue_get (V c : List Int) (k : Nat) (h : k < c.length) (hv : valL V (c.getD k 0) = 1) : hasTrue V c = true := by
  unfold hasTrue; rw [List.any_eq_true]
  exact ⟨c[k], List.getElem_mem h, by simpa [List.getD, h] using hv⟩

end Go.Proofs.Ytjlmooimdogmjaa

namespace Go.Proofs.Ytjlmooimdogmjaa
open Go.RowKit

/-- What the fold over a clause's literals holds. -/
def CInv (V c : List Int) (s : Int × Int × Bool) : Prop :=
  (s = (2, 0, false) ∧ ∀ l ∈ c, valL V l ≠ 0) ∨ (s.1 = 0 ∧ s.2.1 ∈ c ∧ valL V s.2.1 = 0 ∧ (s.2.2 = false → ∀ l ∈ c, valL V l = 0 → l = s.2.1))
theorem cinv_step {V c : List Int} {s : Int × Int × Bool} (h : CInv V c s) (l : Int) : CInv V (c ++ [l]) (cstep V s l) := by
  unfold cstep
  by_cases hv : valL V l = 0
  · rw [if_pos hv]
    right
    refine ⟨rfl, by simp, hv, fun hm => ?_⟩
    rcases h with ⟨rfl, h⟩ | ⟨h1, h2, h3, h4⟩
    · intro k hk hz
      rw [List.mem_append] at hk
      rcases hk with hk | hk
      · exact absurd hz (h k hk)
      · simpa using hk
    · simp only [Bool.or_eq_false_iff] at hm
      have e : l = s.2.1 := by have := hm.2; rw [h1] at this; simpa using this
      intro k hk hz
      rw [List.mem_append] at hk
      rcases hk with hk | hk
      · show k = l
        rw [e]; exact h4 hm.1 k hk hz
      · simpa using hk
  · rw [if_neg hv]
    rcases h with ⟨rfl, h⟩ | ⟨h1, h2, h3, h4⟩
    · left
      refine ⟨rfl, fun k hk => ?_⟩
      rw [List.mem_append] at hk
      rcases hk with hk | hk
      · exact h k hk
      · have : k = l := by simpa using hk
        rw [this]; exact hv
    · right
      refine ⟨h1, by simp [h2], h3, fun hm k hk hz => ?_⟩
      rw [List.mem_append] at hk
      rcases hk with hk | hk
      · exact h4 hm k hk hz
      · have : k = l := by simpa using hk
        rw [this] at hz; exact absurd hz hv
theorem cinv_take (V c : List Int) : ∀ k, k ≤ c.length → CInv V (c.take k) (cfold V (c.take k))
  | 0, _ => .inl ⟨rfl, by simp⟩
  | k + 1, hk => by
    rw [cfold_succ V c k (by omega), take_snoc c k (by omega)]
    exact cinv_step (cinv_take V c k (by omega)) _
theorem cinv_all (V c : List Int) : CInv V c (cfold V c) := by
  have := cinv_take V c c.length (Nat.le_refl _)
  rwa [List.take_of_length_le (Nat.le_refl _)] at this

theorem hasTrue_iff (V c : List Int) : hasTrue V c = true ↔ ∃ l ∈ c, valL V l = 1 := by unfold hasTrue; simp
theorem hasTrue_not (V c : List Int) : hasTrue V c = false ↔ ∀ l ∈ c, valL V l ≠ 1 := by unfold hasTrue; simp

theorem clauseL_true {V c : List Int} (h : ∃ l ∈ c, valL V l = 1) : clauseL V c = (1, 0) := by unfold clauseL; rw [if_pos ((hasTrue_iff V c).2 h)]
theorem clauseL_false {V c : List Int} (h : ∀ l ∈ c, valL V l = 2) : (clauseL V c).1 = 2 := by
  unfold clauseL
  rw [if_neg (by rw [hasTrue_iff]; rintro ⟨l, hl, e⟩; rw [h l hl] at e; omega)]
  rcases cinv_all V c with ⟨e, _⟩ | ⟨h1, h2, h3, _⟩
  · rw [e]
  · rw [h _ h2] at h3; omega
theorem clauseL_unk {V c : List Int} (h1 : ∀ l ∈ c, valL V l ≠ 1) (h2 : ∃ l ∈ c, valL V l = 0) : (clauseL V c).1 = 0 := by
  unfold clauseL
  rw [if_neg (by rw [hasTrue_iff]; rintro ⟨l, hl, e⟩; exact h1 l hl e)]
  rcases cinv_all V c with ⟨e, h⟩ | ⟨h, _⟩
  · obtain ⟨l, hl, e⟩ := h2
    exact absurd e (h l hl)
  · exact h
theorem clauseL_three (V c : List Int) : (clauseL V c).1 = 0 ∨ (clauseL V c).1 = 1 ∨ (clauseL V c).1 = 2 := by
  unfold clauseL
  split
  · exact .inr (.inl rfl)
  · rcases cinv_all V c with ⟨e, _⟩ | ⟨h, _⟩
    · rw [e]; exact .inr (.inr rfl)
    · exact .inl h
/-- The one literal. -/
theorem clauseL_one {V c : List Int} (h : (clauseL V c).2 ≠ 0) : (clauseL V c).1 = 0 ∧ (clauseL V c).2 ∈ c ∧ valL V (clauseL V c).2 = 0 ∧ (∀ l ∈ c, valL V l ≠ 1) ∧ ∀ l ∈ c, valL V l = 0 → l = (clauseL V c).2 := by
  have hi := cinv_all V c
  unfold clauseL at h ⊢
  by_cases ht : hasTrue V c = true
  · rw [if_pos ht] at h; exact absurd rfl h
  · rw [if_neg ht] at h ⊢
    have ht' := (hasTrue_not V c).1 (by simpa using ht)
    rcases hi with ⟨e, _⟩ | ⟨h1, h2, h3, h4⟩
    · rw [e] at h; exact absurd rfl h
    · by_cases hm : (cfold V c).2.2 = true
      · simp only [hm, if_true] at h; exact absurd rfl h
      · simp only [hm] at h ⊢
        exact ⟨h1, h2, h3, ht', h4 (by simpa using hm)⟩

theorem valL_set {V : List Int} (m : Nat) (x l : Int) (h1 : 1 ≤ m) (h2 : m < V.length) : valL (V.set m x) l = if plc l = m then (if 0 < l then x else opp x) else valL V l := by
  have hr : rightB (V.set m x) l = rightB V l := by unfold rightB; simp
  have hg : (V.set m x).getD (plc l) 0 = if plc l = m then x else V.getD (plc l) 0 := by
    rw [getD_set]
    by_cases e : plc l = m
    · rw [if_pos e, if_pos (show m = plc l ∧ plc l < V.length from ⟨e.symm, by omega⟩)]
    · rw [if_neg e, if_neg (fun hh : m = plc l ∧ plc l < V.length => e hh.1.symm)]
  unfold valL
  rw [hr, hg]
  by_cases e : plc l = m
  · have : rightB V l = true := by rw [rightB_iff]; omega
    rw [if_pos this, if_pos e, if_pos e]
  · rw [if_neg e, if_neg e]
theorem plc_negate (l : Int) : plc (-l) = plc l := by unfold plc absI; split <;> split <;> omega
theorem plc_eq {l k : Int} (h : plc l = plc k) : l = k ∨ l = -k := by
  have h1 := plc_absI l
  have h2 := plc_absI k
  unfold absI at h1 h2
  split at h1 <;> split at h2 <;> omega
theorem units_facts {V d : List Int} (hV : Vals V) (hd : ∀ l ∈ d, 1 ≤ plc l ∧ plc l < V.length) {o : Int} (ho : (clauseL V d).2 = o) (h0 : o ≠ 0) :
    (clauseL V d).1 = 0 ∧ o ∈ d ∧ setOk V o = true ∧ (clauseL (setV V o) d).1 = 1 ∧ setOk (unsetV (setV V o) (plc o : Int)) (-o) = true ∧
      ((clauseL (setV (unsetV (setV V o) (plc o : Int)) (-o)) d).1 = 2 ∨ -o ∈ d) := by
  subst ho
  obtain ⟨f1, f2, f3, f4, f5⟩ := clauseL_one h0
  generalize (clauseL V d).2 = o at *
  obtain ⟨g1, g2⟩ := hd o f2
  have hr : rightB V o = true := by rw [rightB_iff]; omega
  have hok : setOk V o = true := by unfold setOk; rw [hr, f3]; rfl
  have hs : setV V o = V.set (plc o) (if 0 < o then 1 else 2) := by unfold setV; rw [hok]; rfl
  have hu : unsetV (setV V o) (plc o : Int) = V.set (plc o) 0 := by
    unfold unsetV; rw [hs, if_pos ⟨by omega, by simpa using g2⟩, Int.toNat_natCast, List.set_set]
  have hok2 : setOk (unsetV (setV V o) (plc o : Int)) (-o) = true := by
    rw [hu]; unfold setOk
    rw [valL_set _ _ _ g1 g2, plc_negate, if_pos rfl, show rightB (V.set (plc o) 0) (-o) = true by rw [rightB_iff, plc_negate]; simp; omega]
    split <;> rfl
  refine ⟨f1, f2, hok, ?_, hok2, ?_⟩
  · rw [clauseL_true ⟨o, f2, ?_⟩]
    rw [hs, valL_set _ _ _ g1 g2, if_pos rfl]
    by_cases hp : 0 < o
    · rw [if_pos hp, if_pos hp]
    · rw [if_neg hp, if_neg hp]; rfl
  · by_cases hn : -o ∈ d
    · exact .inr hn
    · left
      refine clauseL_false fun l hl => ?_
      have hs2 : setV (unsetV (setV V o) (plc o : Int)) (-o) = V.set (plc o) (if 0 < -o then 1 else 2) := by
        show (if setOk (unsetV (setV V o) (plc o : Int)) (-o) = true then _ else _) = _
        rw [if_pos hok2, hu, plc_negate, List.set_set]
      rw [hs2, valL_set _ _ _ g1 g2]
      by_cases e : plc l = plc o
      · rw [if_pos e]
        rcases plc_eq e with e | e
        · rw [e]
          by_cases hp : 0 < o
          · rw [if_pos hp, if_neg (by omega)]
          · rw [if_neg hp, if_pos (by omega)]; rfl
        · rw [e] at hl; exact absurd hl hn
      · rw [if_neg e]
        have := f4 l hl
        have h5 := f5 l hl
        have h6 : valL V l ≠ 0 := fun hz => e (by rw [h5 hz])
        have := hV.val l
        omega
end Go.Proofs.Ytjlmooimdogmjaa
