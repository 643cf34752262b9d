/- Contracts of the program's appendLine and the document's numbers: a line of numbers onto a row of bytes. Conditions: the numbers lie in a block of their own; how the first of them is appended is handed in; the table of powers of ten is as the program lays it. -/
import Derived.Test.YtfkodpglgeghlaaDoorAppI2
import Derived.Test.YtfkodpglgeghlaaDoorTxt
import Derived.Lib.OthersKept
namespace Go.Proofs.YtfkodpglgeghlaaDoor
open Go.RowKit

theorem bopen {w : World} {B m : Nat} {v : Value} {xs : List Int} (h : w.ownsRow B 5 1 v m (xs.map (Value.int .u8))) : ∃ a k c, v = .slice a k c ∧ Hid (k = xs.length) ∧ Hid (w.ownsRow B 5 1 (.slice a k c) k (xs.map (Value.int .u8))) := by
  have hm : m = xs.length := by have := h.1; simpa using this.symm
  obtain ⟨a, c, rfl, _, _⟩ := own_shape h
  exact ⟨a, m, c, rfl, hm, h⟩
/-- The numbers' block. -/
def Ints (W : World) (nb : Nat) (ns : List Int) : Prop := W.heap[nb]? = some (.cells (ns.map (Value.int .i64)).toArray 3 (0, 0))
theorem Ints.lt {W : World} {nb : Nat} {ns : List Int} (h : Ints W nb ns) : nb < W.heap.size := (Array.getElem?_eq_some_iff.1 h).1
theorem Ints.cell {W : World} {nb : Nat} {ns : List Int} (h : Ints W nb ns) {k : Nat} (hk : k < ns.length) : W.cell? ⟨nb, k, none⟩ = some (.int .i64 (ns.getD k 0)) := by
  rw [cell_of_row _ _ _ _ _ (0, 0) h]
  simp [List.getD, hk]
/-- A row of bytes is another block. -/
theorem Ints.ne {W : World} {nb B n : Nat} {ns : List Int} {v : Value} {xs : List Value} (h : Ints W nb ns) (ho : W.ownsRow B 5 1 v n xs) : v.ownBlock ≠ some nb := by
  intro e
  rcases ho.2 with ⟨e0, _⟩ | ⟨g, cap, cur, e0, _, hg, _⟩
  · subst e0; cases e
  · subst e0
    have e1 : g = nb := by simpa [Value.ownBlock] using e
    subst e1
    rw [h] at hg
    injection hg with hg
    injection hg with _ hg _
    exact absurd hg (by decide)
theorem Ints.below {W W' : World} {nb : Nat} {ns : List Int} (h : Ints W nb ns) (hb : Below W.heap.size W W') : Ints W' nb ns := (hb.block nb h.lt).trans h
theorem Ints.others {W W' : World} {nb : Nat} {ns : List Int} (h : Ints W nb ns) (hb : Lib.OthersKept 5 none W W') : Ints W' nb ns := hb nb _ h (by simp) (fun c fz e => by injection e with _ e _; exact absurd e (by decide))
theorem Ints.app {W W' : World} {nb B n : Nat} {ns : List Int} {v v' : Value} {xs : List Value} (h : Ints W nb ns) (ho : W.ownsRow B 5 1 v n xs) (hap : App B W W' v v') : Ints W' nb ns := (hap.other nb h.lt (fun e => h.ne ho e.symm)).trans h
/-- AppendInt onto a row of the call's own: the numbers stay. -/
theorem appInt_ints (B : Nat) (i : Int) (h0 : -1000000000 < i) (h1 : i < 1000000000) (sv : Value) (k : Nat) (xs : List Int) (w : World) (hown : w.ownsRow B 5 1 sv k (xs.map (Value.int .u8))) (hBw : B ≤ w.heap.size) (hl : xs.length ≤ 100000) (ht : Lib.TabBelow Tryd.prog B w "internal/strconv.uint64pow10" .u64 Lib.pow10Tab) (nb : Nat) (ns : List Int) (hn : Ints w nb ns) :
    Calls Tryd.prog 26 #[sv, .int .i64 i, .int .i64 10] w fun e w' => ∃ v', e = .returned v' ∧ w'.ownsRow B 5 1 v' (xs ++ itoaL i).length ((xs ++ itoaL i).map (Value.int .u8)) ∧ Below B w w' ∧ Ints w' nb ns := by
  have hk : k = xs.length := by have := hown.1; simpa using this.symm
  subst hk
  refine (Tryd.strconv_AppendInt_10 B xs.length i (by omega) (by omega) sv _ w hown hBw (by omega) ht).mono ?_
  rintro e w' ⟨v', rfl, h2, h3, h4⟩
  refine ⟨v', rfl, ?_, h3, hn.others h4⟩
  rw [byteCells_itoa, ← List.map_append, ← itoaL_len, ← List.length_append] at h2
  exact h2
/-- AppendInt onto the bytes of a constant string: the numbers stay. -/
theorem appFirst_ints (B g n u : Nat) (hu2 : u < 1000000000) (xs : List Int) (hx : xs.length = n) (hn : n ≤ 1000) (w : World) (hB : B ≤ w.heap.size) (hc : ∀ j v, (xs.map (Value.int .u8))[j]? = some v → w.cell? ⟨g, j, none⟩ = some v) (hg : g < w.heap.size) (htab : Lib.TabIs Tryd.prog w "internal/strconv.uint64pow10" .u64 Lib.pow10Tab) (nb : Nat) (ns : List Int) (hi : Ints w nb ns) :
    Calls Tryd.prog 26 #[.slice (some ⟨g, 0, none⟩) n n, .int .i64 u, .int .i64 10] w fun e w' => ∃ v', e = .returned v' ∧ w'.ownsRow B 5 1 v' (xs ++ itoaL u).length ((xs ++ itoaL u).map (Value.int .u8)) ∧ Below B w w' ∧ Ints w' nb ns :=
  (appFirst2_any g n u hu2 xs hx hn w hc hg htab).mono fun _ _ ⟨v', h1, h2, h3⟩ => ⟨v', h1, own_base h2 hB, h3.mono hB, hi.below h3⟩

set_option maxHeartbeats 8000000 in
theorem appLine_any (B : Nat) (sv : Value) (xs : List Int) (n0 : Int) (rest : List Int) (nb : Nat) (w : World) (hi : Ints w nb (n0 :: rest)) (hBw : B ≤ w.heap.size)
    (hfi : Calls Tryd.prog 26 #[sv, .int .i64 n0, .int .i64 10] w fun e w' => ∃ v', e = .returned v' ∧ w'.ownsRow B 5 1 v' (xs ++ itoaL n0).length ((xs ++ itoaL n0).map (Value.int .u8)) ∧ Below B w w' ∧ Ints w' nb (n0 :: rest))
    (hbd : ∀ n ∈ rest, -1000000000 < n ∧ n < 1000000000) (hl : rest.length ≤ 1000) (hlen : (xs ++ lineL (n0 :: rest)).length ≤ 100000) (ht : ∀ W, Below B w W → Lib.TabBelow Tryd.prog B W "internal/strconv.uint64pow10" .u64 Lib.pow10Tab) :
    Calls Tryd.prog 41 #[sv, .slice (some ⟨nb, 0, none⟩) (rest.length + 1) (rest.length + 1)] w fun e w' => ∃ v', e = .returned v' ∧ w'.ownsRow B 5 1 v' (xs ++ lineL (n0 :: rest)).length ((xs ++ lineL (n0 :: rest)).map (Value.int .u8)) ∧ Below B w w' := by
  have HI := Lib.hid hi
  have HFI := Lib.hid hfi
  have HT := Lib.hid ht
  have HBD := Lib.hid hbd
  have HLK : Hid (∀ k, k ≤ rest.length → (xs ++ bodyL ((n0 :: rest).take (k + 1))).length ≤ 100000) := fun k hk => by
    have h1 : ((n0 :: rest).take (k + 1)).length ≤ (n0 :: rest).length := by rw [List.length_take]; omega
    have h2 : (bodyL ((n0 :: rest).take (k + 1))).length ≤ (bodyL (n0 :: rest)).length := by
      unfold bodyL
      rw [List.length_drop, List.length_drop]
      have h3 : ((n0 :: rest).flatMap fun n => 32 :: itoaL n).length = (((n0 :: rest).take (k + 1)).flatMap fun n => 32 :: itoaL n).length + (((n0 :: rest).drop (k + 1)).flatMap fun n => 32 :: itoaL n).length := by
        rw [← List.length_append, ← List.flatMap_append, List.take_append_drop]
      omega
    unfold lineL at hlen
    simp only [List.length_append] at hlen ⊢
    omega
  have HSN : Hid (∀ k, 0 < k → k ≤ rest.length → xs ++ bodyL ((n0 :: rest).take (k + 1)) = xs ++ bodyL ((n0 :: rest).take k) ++ [32] ++ itoaL ((n0 :: rest).getD k 0)) := fun k h0 hk => by
    have hkl : k < (n0 :: rest).length := by simp; omega
    have he : (n0 :: rest).getD k 0 = (n0 :: rest)[k] := by rw [List.getD, List.getElem?_eq_getElem hkl]; rfl
    rw [List.take_succ_eq_append_getElem hkl, bodyL_snoc _ (take_ne h0 (by omega)), he]
    simp
  have HS1 : Hid (xs ++ bodyL ((n0 :: rest).take 1) = xs ++ itoaL n0) := by unfold Hid; rw [List.take_succ_cons, List.take_zero, bodyL_one]
  have HEN : Hid (xs ++ lineL (n0 :: rest) = xs ++ bodyL ((n0 :: rest).take (rest.length + 1)) ++ [10]) := by unfold Hid lineL; rw [List.take_of_length_le (by simp)]; simp
  have HBK : Hid (∀ k, 0 < k → k ≤ rest.length → -1000000000 < (n0 :: rest).getD k 0 ∧ (n0 :: rest).getD k 0 < 1000000000) := fun k h0 hk => by
    obtain ⟨j, rfl⟩ : ∃ j, k = j + 1 := ⟨k - 1, by omega⟩
    have hj : j < rest.length := by omega
    simpa [List.getD, hj] using hbd _ (List.getElem_mem hj)
  have hc0 : w.cell? ⟨nb, 0, none⟩ = some (.int .i64 n0) := by simpa using hi.cell (k := 0) (by simp)
  have hnbl := hi.lt
  have HCE : Hid (∀ W k, Ints W nb (n0 :: rest) → k ≤ rest.length → W.cell? ⟨nb, k, none⟩ = some (.int .i64 ((n0 :: rest).getD k 0))) := fun W k h hk => h.cell (by simp; omega)
  have HLN : Hid ((n0 :: rest).length = rest.length + 1) := by unfold Hid; simp
  clear hi hfi hbd hlen ht HBD
  generalize hns : n0 :: rest = ns at *
  generalize rest.length = m at *
  clear hns
  go_enter Tryd.func41, Tryd.ntmps41
  go_wp2_with fail
  go_loopw [0, 9] (fun bv i wr => ∃ k : Nat, k ≤ m + 1 ∧ i = .int .i64 (k : Int) ∧ Hid ((k = 0 ∧ bv = sv ∧ wr = w) ∨ (0 < k ∧ wr.ownsRow B 5 1 bv (xs ++ bodyL (ns.take k)).length ((xs ++ bodyL (ns.take k)).map (Value.int .u8)) ∧ Below B w wr ∧ Ints wr nb ns))) (fun _ i _ => m + 1 - (intOf i).toNat)
  case atStart => exact ⟨0, Nat.zero_le _, rfl, .inl ⟨rfl, rfl, rfl⟩⟩
  case round =>
    obtain ⟨k, hk, rfl, HH⟩ := hrel
    rcases HH.out with ⟨rfl, rfl, rfl⟩ | ⟨h0, hown, hbr, hin⟩
    · clear HH
      go_wp2_with (go_at_call 26; refine HFI.out.mono ?_; rintro e1 w1 ⟨v1, rfl, hown1, hb1, hi1⟩; have HO1 := Lib.hid hown1; have HB1 := Lib.hid hb1; have HI1 := Lib.hid hi1; clear hown1 hb1 hi1)
      go_roundw
      case rel => exact ⟨1, by omega, rfl, .inr ⟨by decide, by rw [HS1.out]; exact HO1.out, HB1.out, HI1.out⟩⟩
      case measure => simp [intOf]
    · clear HH
      have hsr : B ≤ wr.heap.size := Nat.le_trans hBw hbr.size
      by_cases hlt : k < m + 1
      · have g1 := HCE.out wr k hin (by omega)
        have hnl := hin.lt
        obtain ⟨ab, kb, cb, rfl, HK, HO⟩ := bopen hown
        have HSS := Lib.hid (HSN.out k h0 (by omega))
        have HB9 := HBK.out k h0 (by omega)
        have HLL := Lib.hid (HLK.out k (by omega))
        rw [HSS.out] at HLL
        have HHI := Lib.hid hin
        have HHB := Lib.hid hbr
        have HCK := Lib.hid (fun W (h : Ints W nb ns) => HCE.out W k h (by omega))
        clear hown hin hbr HFI HSN HBK HLK HCE
        generalize ns.getD k 0 = x at *
        have hk0 : (0 : Int) < (k : Int) := by omega
        go_wp2_with (first
          | (at_builtin; refine wpList_app1G (Value.int .u8) 23 5 (.int .u8 0) 1 Tryd.underlying23 infoU8 rfl (by decide) rfl _ _ rfl wr B _ kb (xs ++ bodyL (ns.take k)) 32 rfl HO.out hsr (by rw [HK.out]; have := HLL.out; simp only [List.length_append] at this ⊢; omega) rfl rfl ?_; intro v2 w2 hown2 hap; have HI2 := Lib.hid (HHI.out.app HO.out ⟨hap.below, hap.other, hap.blk⟩); have HB2 := Lib.hid (HHB.out.trans hap.below); have hs2 : B ≤ w2.heap.size := Nat.le_trans hsr hap.below.size; have g2 := HCK.out w2 HI2.out; have hnl2 := HI2.out.lt; obtain ⟨a2, k2, c2, rfl, HK2, HO2⟩ := bopen hown2; clear hown2 hap)
          | (go_at_call 26; refine (appInt_ints B x HB9.1 HB9.2 _ _ _ w2 HO2.out hs2 (by have := HLL.out; simp only [List.length_append, List.length_cons, List.length_nil] at this ⊢; omega) (HT.out w2 HB2.out) nb ns HI2.out).mono ?_; rintro e3 w3 ⟨v3, rfl, hown3, hb3, hi3⟩; have HO3 := Lib.hid hown3; have HB3 := Lib.hid (HB2.out.trans hb3); have HI3 := Lib.hid hi3; clear hown3 hb3 hi3))
        go_roundw
        case rel => exact ⟨k + 1, by omega, by go_num, .inr ⟨by omega, by rw [HSS.out]; exact HO3.out, HB3.out, HI3.out⟩⟩
        case measure => simp [intOf]; omega
      · have hkm : k = m + 1 := by omega
        subst hkm
        obtain ⟨ab, kb, cb, rfl, HK, HO⟩ := bopen hown
        have HLL := HLK.out m (Nat.le_refl _)
        have HHB := Lib.hid hbr
        clear hown hin hbr HFI HSN HBK HLK HCE hlt hk
        go_wp2_with (at_builtin; refine wpList_app1G (Value.int .u8) 23 5 (.int .u8 0) 1 Tryd.underlying23 infoU8 rfl (by decide) rfl _ _ rfl wr B _ kb (xs ++ bodyL (ns.take (m + 1))) 10 rfl HO.out hsr (by rw [HK.out]; omega) rfl rfl ?_; intro v2 w2 hown2 hap; have HB2 := Lib.hid (HHB.out.trans hap.below); have HO2 := Lib.hid hown2; obtain ⟨a2, c2, rfl, _, _⟩ := own_shape hown2; clear hown2 hap)
        go_ret
        rw [HEN.out]
        refine ⟨_, rfl, ?_, HB2.out⟩
        have h9 : (xs ++ bodyL (ns.take (m + 1)) ++ [10]).length = kb + 1 := by rw [HK.out]; simp; omega
        rw [h9]
        exact HO2.out

set_option maxHeartbeats 8000000 in
theorem numbers_any (B : Nat) (sv : Value) (xs : List Int) (n0 : Int) (rest : List Int) (nb : Nat) (w : World) (hi : Ints w nb (n0 :: rest)) (hBw : B ≤ w.heap.size)
    (hfi : Calls Tryd.prog 26 #[sv, .int .i64 n0, .int .i64 10] w fun e w' => ∃ v', e = .returned v' ∧ w'.ownsRow B 5 1 v' (xs ++ itoaL n0).length ((xs ++ itoaL n0).map (Value.int .u8)) ∧ Below B w w' ∧ Ints w' nb (n0 :: rest))
    (hbd : ∀ n ∈ rest, -1000000000 < n ∧ n < 1000000000) (hl : rest.length ≤ 1000) (hlen : (xs ++ lineL (n0 :: rest)).length ≤ 100000) (ht : ∀ W, Below B w W → Lib.TabBelow Tryd.prog B W "internal/strconv.uint64pow10" .u64 Lib.pow10Tab) :
    Calls Tryd.prog 31 #[sv, .slice (some ⟨nb, 0, none⟩) (rest.length + 1) (rest.length + 1)] w fun e w' => ∃ v', e = .returned v' ∧ w'.ownsRow B 5 1 v' (xs ++ lineL (n0 :: rest)).length ((xs ++ lineL (n0 :: rest)).map (Value.int .u8)) ∧ Below B w w' := by
  have HI := Lib.hid hi
  have HFI := Lib.hid hfi
  have HT := Lib.hid ht
  have HBD := Lib.hid hbd
  have HLK : Hid (∀ k, k ≤ rest.length → (xs ++ bodyL ((n0 :: rest).take (k + 1))).length ≤ 100000) := fun k hk => by
    have h1 : ((n0 :: rest).take (k + 1)).length ≤ (n0 :: rest).length := by rw [List.length_take]; omega
    have h2 : (bodyL ((n0 :: rest).take (k + 1))).length ≤ (bodyL (n0 :: rest)).length := by
      unfold bodyL
      rw [List.length_drop, List.length_drop]
      have h3 : ((n0 :: rest).flatMap fun n => 32 :: itoaL n).length = (((n0 :: rest).take (k + 1)).flatMap fun n => 32 :: itoaL n).length + (((n0 :: rest).drop (k + 1)).flatMap fun n => 32 :: itoaL n).length := by
        rw [← List.length_append, ← List.flatMap_append, List.take_append_drop]
      omega
    unfold lineL at hlen
    simp only [List.length_append] at hlen ⊢
    omega
  have HSN : Hid (∀ k, 0 < k → k ≤ rest.length → xs ++ bodyL ((n0 :: rest).take (k + 1)) = xs ++ bodyL ((n0 :: rest).take k) ++ [32] ++ itoaL ((n0 :: rest).getD k 0)) := fun k h0 hk => by
    have hkl : k < (n0 :: rest).length := by simp; omega
    have he : (n0 :: rest).getD k 0 = (n0 :: rest)[k] := by rw [List.getD, List.getElem?_eq_getElem hkl]; rfl
    rw [List.take_succ_eq_append_getElem hkl, bodyL_snoc _ (take_ne h0 (by omega)), he]
    simp
  have HS1 : Hid (xs ++ bodyL ((n0 :: rest).take 1) = xs ++ itoaL n0) := by unfold Hid; rw [List.take_succ_cons, List.take_zero, bodyL_one]
  have HEN : Hid (xs ++ lineL (n0 :: rest) = xs ++ bodyL ((n0 :: rest).take (rest.length + 1)) ++ [10]) := by unfold Hid lineL; rw [List.take_of_length_le (by simp)]; simp
  have HBK : Hid (∀ k, 0 < k → k ≤ rest.length → -1000000000 < (n0 :: rest).getD k 0 ∧ (n0 :: rest).getD k 0 < 1000000000) := fun k h0 hk => by
    obtain ⟨j, rfl⟩ : ∃ j, k = j + 1 := ⟨k - 1, by omega⟩
    have hj : j < rest.length := by omega
    simpa [List.getD, hj] using hbd _ (List.getElem_mem hj)
  have hc0 : w.cell? ⟨nb, 0, none⟩ = some (.int .i64 n0) := by simpa using hi.cell (k := 0) (by simp)
  have hnbl := hi.lt
  have HCE : Hid (∀ W k, Ints W nb (n0 :: rest) → k ≤ rest.length → W.cell? ⟨nb, k, none⟩ = some (.int .i64 ((n0 :: rest).getD k 0))) := fun W k h hk => h.cell (by simp; omega)
  have HLN : Hid ((n0 :: rest).length = rest.length + 1) := by unfold Hid; simp
  clear hi hfi hbd hlen ht HBD
  generalize hns : n0 :: rest = ns at *
  generalize rest.length = m at *
  clear hns
  go_enter Tryd.func31, Tryd.ntmps31
  go_wp2_with fail
  go_loopw [0, 5] (fun bv i wr => ∃ k : Nat, k ≤ m + 1 ∧ i = .int .i64 (k : Int) ∧ Hid ((k = 0 ∧ bv = sv ∧ wr = w) ∨ (0 < k ∧ wr.ownsRow B 5 1 bv (xs ++ bodyL (ns.take k)).length ((xs ++ bodyL (ns.take k)).map (Value.int .u8)) ∧ Below B w wr ∧ Ints wr nb ns))) (fun _ i _ => m + 1 - (intOf i).toNat)
  case atStart => exact ⟨0, Nat.zero_le _, rfl, .inl ⟨rfl, rfl, rfl⟩⟩
  case round =>
    obtain ⟨k, hk, rfl, HH⟩ := hrel
    rcases HH.out with ⟨rfl, rfl, rfl⟩ | ⟨h0, hown, hbr, hin⟩
    · clear HH
      go_wp2_with (go_at_call 26; refine HFI.out.mono ?_; rintro e1 w1 ⟨v1, rfl, hown1, hb1, hi1⟩; have HO1 := Lib.hid hown1; have HB1 := Lib.hid hb1; have HI1 := Lib.hid hi1; clear hown1 hb1 hi1)
      go_roundw
      case rel => exact ⟨1, by omega, rfl, .inr ⟨by decide, by rw [HS1.out]; exact HO1.out, HB1.out, HI1.out⟩⟩
      case measure => simp [intOf]
    · clear HH
      have hsr : B ≤ wr.heap.size := Nat.le_trans hBw hbr.size
      by_cases hlt : k < m + 1
      · have g1 := HCE.out wr k hin (by omega)
        have hnl := hin.lt
        obtain ⟨ab, kb, cb, rfl, HK, HO⟩ := bopen hown
        have HSS := Lib.hid (HSN.out k h0 (by omega))
        have HB9 := HBK.out k h0 (by omega)
        have HLL := Lib.hid (HLK.out k (by omega))
        rw [HSS.out] at HLL
        have HHI := Lib.hid hin
        have HHB := Lib.hid hbr
        have HCK := Lib.hid (fun W (h : Ints W nb ns) => HCE.out W k h (by omega))
        clear hown hin hbr HFI HSN HBK HLK HCE
        generalize ns.getD k 0 = x at *
        have hk0 : (0 : Int) < (k : Int) := by omega
        go_wp2_with (first
          | (at_builtin; refine wpList_app1G (Value.int .u8) 23 5 (.int .u8 0) 1 Tryd.underlying23 infoU8 rfl (by decide) rfl _ _ rfl wr B _ kb (xs ++ bodyL (ns.take k)) 32 rfl HO.out hsr (by rw [HK.out]; have := HLL.out; simp only [List.length_append] at this ⊢; omega) rfl rfl ?_; intro v2 w2 hown2 hap; have HI2 := Lib.hid (HHI.out.app HO.out ⟨hap.below, hap.other, hap.blk⟩); have HB2 := Lib.hid (HHB.out.trans hap.below); have hs2 : B ≤ w2.heap.size := Nat.le_trans hsr hap.below.size; have g2 := HCK.out w2 HI2.out; have hnl2 := HI2.out.lt; obtain ⟨a2, k2, c2, rfl, HK2, HO2⟩ := bopen hown2; clear hown2 hap)
          | (go_at_call 26; refine (appInt_ints B x HB9.1 HB9.2 _ _ _ w2 HO2.out hs2 (by have := HLL.out; simp only [List.length_append, List.length_cons, List.length_nil] at this ⊢; omega) (HT.out w2 HB2.out) nb ns HI2.out).mono ?_; rintro e3 w3 ⟨v3, rfl, hown3, hb3, hi3⟩; have HO3 := Lib.hid hown3; have HB3 := Lib.hid (HB2.out.trans hb3); have HI3 := Lib.hid hi3; clear hown3 hb3 hi3))
        go_roundw
        case rel => exact ⟨k + 1, by omega, by go_num, .inr ⟨by omega, by rw [HSS.out]; exact HO3.out, HB3.out, HI3.out⟩⟩
        case measure => simp [intOf]; omega
      · have hkm : k = m + 1 := by omega
        subst hkm
        obtain ⟨ab, kb, cb, rfl, HK, HO⟩ := bopen hown
        have HLL := HLK.out m (Nat.le_refl _)
        have HHB := Lib.hid hbr
        clear hown hin hbr HFI HSN HBK HLK HCE hlt hk
        go_wp2_with (at_builtin; refine wpList_app1G (Value.int .u8) 23 5 (.int .u8 0) 1 Tryd.underlying23 infoU8 rfl (by decide) rfl _ _ rfl wr B _ kb (xs ++ bodyL (ns.take (m + 1))) 10 rfl HO.out hsr (by rw [HK.out]; omega) rfl rfl ?_; intro v2 w2 hown2 hap; have HB2 := Lib.hid (HHB.out.trans hap.below); have HO2 := Lib.hid hown2; obtain ⟨a2, c2, rfl, _, _⟩ := own_shape hown2; clear hown2 hap)
        go_ret
        rw [HEN.out]
        refine ⟨_, rfl, ?_, HB2.out⟩
        have h9 : (xs ++ bodyL (ns.take (m + 1)) ++ [10]).length = kb + 1 := by rw [HK.out]; simp; omega
        rw [h9]
        exact HO2.out
end Go.Proofs.YtfkodpglgeghlaaDoor
