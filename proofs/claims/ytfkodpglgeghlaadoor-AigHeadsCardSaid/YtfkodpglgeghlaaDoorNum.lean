/- Contracts of word.Number and skolemref1.Number: both are numL. Conditions: the string's bytes are bytes, and not too many. -/
import Derived.Test.YtfkodpglgeghlaaDoorBits
import Derived.Deep.QuietTactic
import Derived.BigQuiet
import Derived.RegionTactic
import Derived.WalkSmall
import Derived.Deep.Draws
namespace Go.Proofs.YtfkodpglgeghlaaDoor
open Go.RowKit

/-- The digits' number. -/
def digs (xs : List Int) : Int := xs.foldl (fun n x => 10 * n + (x - 48)) 0
theorem digs_snoc (xs : List Int) (k : Nat) (h : k < xs.length) : digs (xs.take (k + 1)) = 10 * digs (xs.take k) + (xs.getD k 0 - 48) := by
  unfold digs
  rw [takeSnocI xs k h, List.foldl_append]
  rfl
theorem digs_bd (xs : List Int) : ∀ k, k ≤ xs.length → (∀ j, j < k → digB (xs.getD j 0) = true) → 0 ≤ digs (xs.take k) ∧ digs (xs.take k) < 10 ^ k
  | 0, _, _ => by simp [digs]
  | k + 1, hk, h => by
    have ih := digs_bd xs k (by omega) (fun j hj => h j (by omega))
    have hd := h k (by omega)
    unfold digB at hd
    simp only [Bool.and_eq_true, decide_eq_true_eq] at hd
    rw [digs_snoc xs k (by omega), Int.pow_succ]
    generalize (10 : Int) ^ k = p at *
    generalize digs (xs.take k) = q at *
    generalize xs.getD k 0 = y at *
    omega
theorem digs_nine (xs : List Int) (k : Nat) (hk : k ≤ xs.length) (h : ∀ j, j < k → digB (xs.getD j 0) = true) (h9 : k ≤ 9) : 0 ≤ digs (xs.take k) ∧ digs (xs.take k) < 1000000000 := by
  have := digs_bd xs k hk h
  refine ⟨this.1, Int.lt_of_lt_of_le this.2 ?_⟩
  have : ∀ k : Nat, k < 10 → (10 : Int) ^ k ≤ 1000000000 := by decide
  exact this k (by omega)
/-- Unsigned. -/
def natL (xs : List Int) : Option Int := if 1 ≤ xs.length ∧ xs.length ≤ 9 ∧ xs.all digB = true then some (digs xs) else none
def numL (xs : List Int) : Option Int := if xs.head? = some 45 then (natL xs.tail).map (fun n => -n) else natL xs
def NumPost (w : World) (xs : List Int) (e : Ending) (w' : World) : Prop :=
  e = .returned (.tuple #[.int .i64 ((numL xs).getD 0), .bool (numL xs).isSome]) ∧ Below w.heap.size w w'

theorem str_isEmpty (xs : List Int) : (strOfNums xs).toList.isEmpty = xs.isEmpty := by rw [str_toList]; cases xs <;> rfl
theorem natL_no {xs : List Int} (h : xs = [] ∨ 9 < xs.length ∨ xs.all digB = false) : natL xs = none := by
  unfold natL
  rw [if_neg]
  rintro ⟨h1, h2, h3⟩
  rcases h with h | h | h
  · subst h; simp at h1
  · omega
  · rw [h3] at h; cases h

/-- What the rest of the number's text is, after the sign. -/
structure Rest (xs ys : List Int) (t : ByteArray) (sg : Int) : Prop where
  at' : ∀ k (h : k < t.size), ((t[k]'h).toNat : Int) = ys.getD k 0
  size : t.size = ys.length
  empty : t.toList.isEmpty = ys.isEmpty
  bts : Bts ys
  is : numL xs = (natL ys).map (fun n => sg * n)
theorem rest_neg {xs : List Int} (hb : Bts xs) (h : xs.head? = some 45) : Rest xs xs.tail ((strOfNums xs).extract 1 xs.length) (-1) := by
  have e : (strOfNums xs).extract 1 xs.length = strOfNums xs.tail := by rw [str_extract, List.drop_one, List.take_of_length_le (by simp)]
  have hbt : Bts xs.tail := by rw [← List.drop_one]; exact hb.drop 1
  rw [e]
  refine ⟨str_at hbt, strOfNums_size _, str_isEmpty _, hbt, ?_⟩
  unfold numL; rw [h, if_pos rfl]
  congr 1; funext n; omega
theorem rest_pos {xs : List Int} (hb : Bts xs) (h : xs.head? ≠ some 45) : Rest xs xs (strOfNums xs) 1 := by
  refine ⟨str_at hb, strOfNums_size _, str_isEmpty _, hb, ?_⟩
  unfold numL; rw [if_neg h]
  cases natL xs <;> simp
theorem numPost_none {w w' : World} {xs ys : List Int} {t : ByteArray} {sg : Int} (h : Rest xs ys t sg) (h' : ys = [] ∨ 9 < ys.length ∨ ys.all digB = false) (hb : Below w.heap.size w w') : NumPost w xs (.returned (.tuple #[.int .i64 0, .bool false])) w' := by
  unfold NumPost
  rw [h.is, natL_no h']
  exact ⟨rfl, hb⟩
theorem numPost_some {w w' : World} {xs ys : List Int} {t : ByteArray} {sg : Int} (h : Rest xs ys t sg) (h1 : ys ≠ []) (h2 : ys.length ≤ 9) (h3 : ys.all digB = true) (hb : Below w.heap.size w w') (r : Int) (hr : r = sg * digs ys) : NumPost w xs (.returned (.tuple #[.int .i64 r, .bool true])) w' := by
  unfold NumPost
  have hl : 1 ≤ ys.length := by cases ys <;> simp_all
  rw [h.is, show natL ys = some (digs ys) from if_pos ⟨hl, h2, h3⟩, hr]
  exact ⟨rfl, hb⟩

set_option maxRecDepth 4000 in
set_option maxHeartbeats 2000000 in
theorem num_any (xs : List Int) (w : World) (hb : Bts xs) (hn : xs.length ≤ 4000000) :
    Calls Tryd.prog 75 #[.string (strOfNums xs)] w (NumPost w xs) := by
  by_cases h0 : xs = []
  · subst h0
    have h1 : (strOfNums []).toList.isEmpty = true := str_isEmpty []
    go_enter Tryd.func75, Tryd.ntmps75
    go_wp2_with fail
    go_ret2
    exact ⟨rfl, Below.refl _ _⟩
  · have hyy := fun h => str_at hb 0 h
    have hie : (strOfNums xs).toList.isEmpty = false := by rw [str_isEmpty]; cases xs <;> simp_all
    have hsz := strOfNums_size xs
    have hl1 : 1 ≤ xs.length := by cases xs <;> simp_all
    have hh : xs.head? = some (xs.getD 0 0) := by cases xs <;> simp_all
    clear h0
    by_cases hneg : xs.getD 0 0 = 45
    · have HR := Lib.hid (rest_neg hb (by rw [hh, hneg]))
      rw [hneg] at hyy
      clear hh hneg
      generalize xs.length = n at *
      generalize strOfNums xs = s at *
      generalize xs.tail = ys at *
      generalize hx : s.extract 1 n = t at *
      have hts := HR.out.size
      have hte := HR.out.empty
      have htb := HR.out.bts
      generalize hm : ys.length = m at *
      have HM := Lib.hid hm; clear hm
      go_enter Tryd.func75, Tryd.ntmps75
      go_wp2_with fail
      go_quiet (fail)
      have hbel : Below w.heap.size w (w.drewN nq) := below_drewN (Below.refl _ _) nq
      generalize w.drewN nq = wr at *
      by_cases g0 : ys = []
      · subst g0
        go_wp2_with fail
        go_ret2
        exact numPost_none HR.out (.inl rfl) hbel
      · have hte' : t.toList.isEmpty = false := by rw [hte]; cases ys <;> simp_all
        have HG0 := Lib.hid g0
        clear hte g0
        by_cases g9 : 9 < m
        · go_wp2_with fail
          go_ret2
          exact numPost_none HR.out (.inr (.inl (by rw [HM.out]; exact g9))) hbel
        · go_wp2_with fail
          go_loop [5, 6, 25] (fun nv _ i => ∃ k : Nat, k ≤ m ∧ i = .int .i64 k ∧ nv = .int .i64 (digs (ys.take k)) ∧ Hid (∀ j, j < k → digB (ys.getD j 0) = true)) (fun _ _ i => m - (intOf i).toNat)
          case atStart => exact ⟨0, Nat.zero_le _, rfl, rfl, fun j hj => absurd hj (Nat.not_lt_zero _)⟩
          case round =>
            obtain ⟨k, hk, rfl, rfl, HQ⟩ := hrel
            have hd9 := digs_nine ys k (by rw [HM.out]; exact hk) HQ.out (by omega)
            by_cases hlt : k < m
            · have hy := HR.out.at' k
              have hkl : k < ys.length := by rw [HM.out]; exact hlt
              obtain ⟨hb1, hb2⟩ := HR.out.bts.at k
              have HF := Lib.hid (all_no (xs := ys) (p := digB) k hkl)
              have HT := Lib.hid (fun (h : digB (ys.getD k 0) = true) => show ∀ j, j < k + 1 → digB (ys.getD j 0) = true from fun j hj => by
                by_cases e : j = k
                · rw [e]; exact h
                · exact HQ.out j (by omega))
              have HS := Lib.hid (digs_snoc ys k hkl)
              clear hkl
              generalize ys.getD k 0 = y at *
              generalize digs (ys.take k) = q at *
              cases hdig : digB y with
              | true =>
                have HT' := Lib.hid (HT.out hdig)
                have HI := Lib.hid (fun W => hdig ▸ is_dig y W hb1 hb2)
                have hyd : 48 ≤ y ∧ y ≤ 57 := by unfold digB at hdig; simpa using hdig
                obtain ⟨hy1, hy2⟩ := hyd
                clear HT HF hdig
                go_wp2_with (go_at_call 53; refine (HI.out _).mono ?_; rintro e w' ⟨rfl, rfl⟩)
                go_round
                case rel => exact ⟨k + 1, by omega, by go_num, by rw [HS.out], HT'.out⟩
                case measure => simp [intOf]; omega
              | false =>
                have HF' := Lib.hid (HF.out hdig)
                have HI := Lib.hid (fun W => hdig ▸ is_dig y W hb1 hb2)
                clear HT HF hdig
                go_wp2_with (go_at_call 53; refine (HI.out _).mono ?_; rintro e w' ⟨rfl, rfl⟩)
                go_ret2
                exact numPost_none HR.out (.inr (.inr HF'.out)) hbel
            · have hkm : k = m := by omega
              have HA := Lib.hid (all_yes (xs := ys) (p := digB) fun j hj => HQ.out j (by rw [HM.out] at hj; omega))
              have HTK := Lib.hid (show ys.take k = ys by rw [hkm, ← HM.out]; simp)
              rw [HTK.out] at hd9
              simp only [HTK.out]
              generalize hq : digs ys = q at *
              have HQ' := Lib.hid hq; clear hq
              clear hlt hk HQ HTK
              subst hkm
              go_wp2
              go_ret2
              exact numPost_some HR.out HG0.out (by rw [HM.out]; omega) HA.out hbel _ (by rw [HQ'.out]; go_num)
    · have HR := Lib.hid (rest_pos hb (by rw [hh]; intro h; exact hneg (by injection h)))
      generalize xs.getD 0 0 = y0 at *
      have hnb : (y0 == 45) = false := by simp [hneg]
      clear hh hneg
      generalize hm : xs.length = m at *
      generalize strOfNums xs = t at *
      generalize xs = ys at HR hb hie hm
      have hts := HR.out.size
      have hte := HR.out.empty
      have htb := HR.out.bts
      have HM := Lib.hid hm
      clear hsz
      rw [hm] at hts
      clear hm
      have hbel : Below w.heap.size w w := Below.refl _ _
      go_enter Tryd.func75, Tryd.ntmps75
      by_cases g0 : ys = []
      · subst g0
        rw [hte] at hie
        cases hie
      · have hte' : t.toList.isEmpty = false := by rw [hte]; cases ys <;> simp_all
        have HG0 := Lib.hid g0
        clear hte g0
        by_cases g9 : 9 < m
        · go_wp2_with fail
          go_ret2
          exact numPost_none HR.out (.inr (.inl (by rw [HM.out]; exact g9))) hbel
        · go_wp2_with fail
          go_loop [5, 6, 25] (fun nv _ i => ∃ k : Nat, k ≤ m ∧ i = .int .i64 k ∧ nv = .int .i64 (digs (ys.take k)) ∧ Hid (∀ j, j < k → digB (ys.getD j 0) = true)) (fun _ _ i => m - (intOf i).toNat)
          case atStart => exact ⟨0, Nat.zero_le _, rfl, rfl, fun j hj => absurd hj (Nat.not_lt_zero _)⟩
          case round =>
            obtain ⟨k, hk, rfl, rfl, HQ⟩ := hrel
            have hd9 := digs_nine ys k (by rw [HM.out]; exact hk) HQ.out (by omega)
            by_cases hlt : k < m
            · have hy := HR.out.at' k
              have hkl : k < ys.length := by rw [HM.out]; exact hlt
              obtain ⟨hb1, hb2⟩ := HR.out.bts.at k
              have HF := Lib.hid (all_no (xs := ys) (p := digB) k hkl)
              have HT := Lib.hid (fun (h : digB (ys.getD k 0) = true) => show ∀ j, j < k + 1 → digB (ys.getD j 0) = true from fun j hj => by
                by_cases e : j = k
                · rw [e]; exact h
                · exact HQ.out j (by omega))
              have HS := Lib.hid (digs_snoc ys k hkl)
              clear hkl
              generalize ys.getD k 0 = y at *
              generalize digs (ys.take k) = q at *
              cases hdig : digB y with
              | true =>
                have HT' := Lib.hid (HT.out hdig)
                have HI := Lib.hid (fun W => hdig ▸ is_dig y W hb1 hb2)
                have hyd : 48 ≤ y ∧ y ≤ 57 := by unfold digB at hdig; simpa using hdig
                obtain ⟨hy1, hy2⟩ := hyd
                clear HT HF hdig
                go_wp2_with (go_at_call 53; refine (HI.out _).mono ?_; rintro e w' ⟨rfl, rfl⟩)
                go_round
                case rel => exact ⟨k + 1, by omega, by go_num, by rw [HS.out], HT'.out⟩
                case measure => simp [intOf]; omega
              | false =>
                have HF' := Lib.hid (HF.out hdig)
                have HI := Lib.hid (fun W => hdig ▸ is_dig y W hb1 hb2)
                clear HT HF hdig
                go_wp2_with (go_at_call 53; refine (HI.out _).mono ?_; rintro e w' ⟨rfl, rfl⟩)
                go_ret2
                exact numPost_none HR.out (.inr (.inr HF'.out)) hbel
            · have hkm : k = m := by omega
              have HA := Lib.hid (all_yes (xs := ys) (p := digB) fun j hj => HQ.out j (by rw [HM.out] at hj; omega))
              have HTK := Lib.hid (show ys.take k = ys by rw [hkm, ← HM.out]; simp)
              rw [HTK.out] at hd9
              simp only [HTK.out]
              generalize hq : digs ys = q at *
              have HQ' := Lib.hid hq; clear hq
              clear hlt hk HQ HTK
              subst hkm
              go_wp2
              go_ret2
              exact numPost_some HR.out HG0.out (by rw [HM.out]; omega) HA.out hbel _ (by rw [HQ'.out]; go_num)

end Go.Proofs.YtfkodpglgeghlaaDoor
