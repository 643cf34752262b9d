/- Contracts of assign.Assign.All and assign.Assign.Known. Conditions: the literals lie strictly inside the 64 bits. -/
import Derived.Test.YtbofgnihockpmaaClP
import Derived.Test.YtbofgnihockpmaaAsgMod
namespace Go.Proofs.Ytbofgnihockpmaa
open Go.RowKit

def anyIs (V : List Int) (cs : List (List Int)) (x : Int) : Bool := cs.any fun c => decide ((clauseL V c).1 = x)
/-- What clauses are worth. -/
def allL (V : List Int) (cs : List (List Int)) : Int := if anyIs V cs 2 = true then 2 else if anyIs V cs 0 = true then 0 else 1
theorem anyIs_succ (V : List Int) (cs : List (List Int)) (x : Int) (k : Nat) (h : k < cs.length) : anyIs V (cs.take (k + 1)) x = (anyIs V (cs.take k) x || decide ((clauseL V (cs.getD k [])).1 = x)) := by
  unfold anyIs
  rw [List.take_succ_eq_append_getElem h, List.any_append]; simp [List.getD, h]
theorem anyIs_yes (V : List Int) (cs : List (List Int)) (x : Int) (k : Nat) (h : k < cs.length) (hf : (clauseL V (cs.getD k [])).1 = x) : anyIs V cs x = true := by
  unfold anyIs
  rw [List.any_eq_true]
  exact ⟨cs[k], List.getElem_mem h, by simpa [List.getD, h] using hf⟩

set_option maxRecDepth 4000 in
set_option maxHeartbeats 2000000 in
theorem all_any {w : World} {B : Nat} {v : Value} {p q : Nat} {V : List Int} (h : Asg w B v p q V) (a : Option Addr) (cap : Nat) (xss : List (List Int)) (hr : RowsAt w a cap xss) (hxs : ∀ xs ∈ xss, InW xs) :
    Calls Try.prog 21 #[v, .slice a xss.length cap] w fun e w' => e = .returned (.int .i64 (allL V xss)) ∧ w = w' := by
  obtain ⟨hc1, hc2, hr⟩ := hr
  unfold maxLen at hc2
  have HR := Lib.hid hr; clear hr
  have HW := Lib.hid hxs; clear hxs
  have HCL := Lib.hid (fun u xs h1 h2 => clause_any h u xs h1 h2)
  obtain rfl := h.val
  clear h
  generalize hN : xss.length = n at *
  have HN := Lib.hid hN; clear hN
  go_enter Try.func21, Try.ntmps21
  go_wp2_with fail
  go_loop [5, 7, 8, 9, 12] (fun al _ _ _ i => ∃ (k : Nat) (x : Int), k ≤ n ∧ al = .int .i64 x ∧ i = .int .i64 k ∧ Hid (anyIs V (xss.take k) 2 = false) ∧ Hid (x = if anyIs V (xss.take k) 0 = true then 0 else 1)) (fun _ _ _ _ i => n - (intOf i).toNat)
  case atStart => exact ⟨0, 1, Nat.zero_le _, rfl, rfl, rfl, rfl⟩
  case round =>
    obtain ⟨k, x, hk, rfl, rfl, HQ, HX⟩ := hrel
    by_cases hlt : k < n
    · obtain ⟨b, off, ha, hb, hc⟩ := HR.out.resolve_left (by omega)
      subst ha
      obtain ⟨v, g1, hv⟩ := hc k hlt
      clear hc
      have hkl : k < xss.length := by rw [HN.out]; exact hlt
      have HT2 := Lib.hid (anyIs_succ V xss 2 k hkl)
      have HT0 := Lib.hid (anyIs_succ V xss 0 k hkl)
      have HF := Lib.hid (anyIs_yes V xss 2 k hkl)
      have HNE := Lib.hid (HCL.out v _ hv (row_inW HW.out k))
      have h3 := clauseL_three V (xss.getD k [])
      generalize xss.getD k [] = ys at *
      obtain ⟨av, cv, rfl, _⟩ := hv
      generalize (clauseL V ys).1 = y at *
      generalize (clauseL V ys).2 = y2 at *
      clear hkl
      rcases h3 with rfl | rfl | rfl
      · have HX' := Lib.hid (show (0 : Int) = if anyIs V (xss.take (k + 1)) 0 = true then 0 else 1 by rw [HT0.out]; simp)
        have HQ' := Lib.hid (show anyIs V (xss.take (k + 1)) 2 = false by rw [HT2.out, HQ.out]; rfl)
        clear HF HT2 HT0
        go_wp2_with (go_at_call 17; refine HNE.out.mono ?_; rintro e w' ⟨rfl, rfl⟩)
        go_round
        case rel => exact ⟨k + 1, 0, by omega, rfl, by go_num, HQ'.out, HX'.out⟩
        case measure => simp [intOf]; omega
      · have HX' := Lib.hid (show x = if anyIs V (xss.take (k + 1)) 0 = true then 0 else 1 by rw [HT0.out]; simpa using HX.out)
        have HQ' := Lib.hid (show anyIs V (xss.take (k + 1)) 2 = false by rw [HT2.out, HQ.out]; rfl)
        clear HF HT2 HT0
        go_wp2_with (go_at_call 17; refine HNE.out.mono ?_; rintro e w' ⟨rfl, rfl⟩)
        go_round
        case rel => exact ⟨k + 1, x, by omega, rfl, by go_num, HQ'.out, HX'.out⟩
        case measure => simp [intOf]; omega
      · have HF' := Lib.hid (show allL V xss = 2 by unfold allL; rw [if_pos (HF.out rfl)])
        clear HF HT2 HT0
        go_wp2_with (go_at_call 17; refine HNE.out.mono ?_; rintro e w' ⟨rfl, rfl⟩)
        go_ret
        exact ⟨ret_int HF'.out.symm, rfl⟩
    · have hkn : k = n := by omega
      have hl : xss.take k = xss := List.take_of_length_le (by rw [HN.out]; omega)
      have HA := Lib.hid (show allL V xss = x by
        have h1 := HQ.out
        have h2 := HX.out
        rw [hl] at h1 h2
        unfold allL; rw [h1, h2]; rfl)
      clear hlt HQ HX hl
      go_wp2
      go_ret
      exact ⟨ret_int HA.out.symm, rfl⟩

/-- The literal that a value says is true. -/
def known1 (v : Nat) (x : Int) : List Int := if x = 1 then [(v : Int)] else if x = 2 then [-(v : Int)] else []
def knownTo (V : List Int) (k : Nat) : List Int := (List.range k).flatMap fun i => known1 i (V.getD i 0)
def knownL (V : List Int) : List Int := knownTo V V.length
theorem knownTo_succ (V : List Int) (k : Nat) : knownTo V (k + 1) = knownTo V k ++ known1 k (V.getD k 0) := by
  unfold knownTo; rw [List.range_succ, List.flatMap_append]; simp
theorem known1_len (v : Nat) (x : Int) : (known1 v x).length ≤ 1 := by
  unfold known1
  split
  · simp
  · split <;> simp
theorem knownTo_len (V : List Int) : ∀ k, (knownTo V k).length ≤ k
  | 0 => by simp [knownTo]
  | k + 1 => by
    rw [knownTo_succ, List.length_append]
    have := knownTo_len V k
    have := known1_len k (V.getD k 0)
    omega

def KnownPost (w : World) (xs : List Int) (e : Ending) (w' : World) : Prop :=
  ∃ v, e = .returned v ∧ w'.ownsRow w.heap.size 3 1 v xs.length (xs.map (Value.int .i64)) ∧ Below w.heap.size w w'

set_option maxRecDepth 4000 in
set_option maxHeartbeats 2000000 in
theorem known_any {w : World} {B : Nat} {v : Value} {p q : Nat} {V : List Int} (h : Asg w B v p q V) :
    Calls Try.prog 24 #[v] w (KnownPost w (knownL V)) := by
  have hlen := h.vals.len
  have hpos := h.vals.pos
  have HT3 := Lib.hid h.vals.three
  have g0 := h.head
  have HC := Lib.hid h.cells
  have hp := h.sp
  have hq := h.sq
  obtain rfl := h.val
  clear h
  have HKL := Lib.hid (show knownL V = knownTo V V.length from rfl)
  generalize hN : V.length = n at *
  have HN := Lib.hid hN; clear hN
  go_enter Try.func24, Try.ntmps24
  go_wp2_with fail
  go_loopw [3, 4, 5, 11] (fun o _ _ i wr => ∃ k : Nat, k ≤ n ∧ i = .int .i64 k ∧ wr.ownsRow w.heap.size 3 1 o (knownTo V k).length ((knownTo V k).map (Value.int .i64)) ∧ Below w.heap.size w wr) (fun _ _ _ i _ => n - (intOf i).toNat)
  case atStart => exact ⟨0, Nat.zero_le _, rfl, ⟨rfl, .inl ⟨rfl, rfl⟩⟩, Below.refl _ _⟩
  case round =>
    obtain ⟨k, hk, rfl, hown, hbr⟩ := hrel
    by_cases hlt : k < n
    · have g1 : wr.cell? ⟨q, k, none⟩ = some (.int .i64 (V.getD k 0)) := (hbr.cell (p := ⟨q, k, none⟩) hq).trans (HC.out k hlt)
      have HS := Lib.hid (knownTo_succ V k)
      have hkl := knownTo_len V k
      have h3 := HT3.out k
      generalize V.getD k 0 = x at *
      have HBR := Lib.hid hbr; clear hbr
      rcases h3 with rfl | rfl | rfl
      · have HS' := Lib.hid (show knownTo V (k + 1) = knownTo V k by rw [HS.out]; simp [known1])
        clear HS
        go_wp2
        go_roundw
        case rel => exact ⟨k + 1, by omega, by go_num, by rw [HS'.out]; exact hown, HBR.out⟩
        case measure => simp [intOf]; omega
      · have HS' := Lib.hid (show knownTo V (k + 1) = knownTo V k ++ [(k : Int)] by rw [HS.out]; simp [known1])
        clear HS
        go_wp2_with (at_builtin; refine wpList_app1 rfl _ _ rfl wr w.heap.size _ _ _ (k : Int) hown HBR.out.size (by omega) rfl rfl ?_; intro v' w2 hown2 hb3)
        go_roundw
        case rel => exact ⟨k + 1, by omega, by go_num, by rw [HS'.out, List.length_append]; exact hown2, HBR.out.trans hb3.below⟩
        case measure => simp [intOf]; omega
      · have HS' := Lib.hid (show knownTo V (k + 1) = knownTo V k ++ [-(k : Int)] by rw [HS.out]; simp [known1])
        clear HS
        go_wp2_with (at_builtin; refine wpList_app1 rfl _ _ rfl wr w.heap.size _ _ _ (-(k : Int)) hown HBR.out.size (by omega) rfl rfl ?_; intro v' w2 hown2 hb3)
        go_roundw
        case rel => exact ⟨k + 1, by omega, by go_num, by rw [HS'.out, List.length_append]; exact hown2, HBR.out.trans hb3.below⟩
        case measure => simp [intOf]; omega
    · have hkn : k = n := by omega
      subst hkn
      rw [← HKL.out] at hown
      clear hlt
      go_wp2
      go_ret
      exact ⟨_, rfl, hown, hbr⟩
end Go.Proofs.Ytbofgnihockpmaa
