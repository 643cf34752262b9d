/- Contracts of word.Bits and skolemref1.Bits: both are bitsL. Conditions: the string's bytes are bytes, and not too many. -/
import Derived.Test.YtijdangaffnckaaKind
import Derived.Test.YtijdangaffnckaaStr
import Derived.Test.YtijdangaffnckaaGen
import Derived.Deep.Light
namespace Go.Proofs.Ytijdangaffnckaa
open Go.RowKit

theorem infoBl : (Try.prog.info? 4).map (fun i => (i.zero, i.size, i.bytes)) = some (some (.bool false), 1, 1) := by kernel_rfl
/-- What the bits of a text are. -/
def bitsL (xs : List Int) : List Bool := if xs.all bitB then xs.map (fun x => x == 49) else []
theorem takeSnocI (xs : List Int) (k : Nat) (h : k < xs.length) : xs.take (k + 1) = xs.take k ++ [xs.getD k 0] := by
  rw [List.take_succ_eq_append_getElem h]; simp [List.getD, h]
theorem all_no {xs : List Int} {p : Int → Bool} (k : Nat) (hk : k < xs.length) (h : p (xs.getD k 0) = false) : xs.all p = false := by
  rw [List.all_eq_false]
  exact ⟨xs[k], List.getElem_mem hk, by simpa [List.getD, hk] using h⟩
theorem all_yes {xs : List Int} {p : Int → Bool} (h : ∀ j, j < xs.length → p (xs.getD j 0) = true) : xs.all p = true := by
  rw [List.all_eq_true]
  intro x hx
  obtain ⟨j, hj, rfl⟩ := List.getElem_of_mem hx
  simpa [List.getD, hj] using h j hj
theorem getD_extG {α : Type} {d : α} {xs ys : List α} (h : xs.length = ys.length) (k : ∀ j, j < xs.length → xs.getD j d = ys.getD j d) : xs = ys := by
  apply List.ext_getElem h
  intro i h1 h2
  have := k i h1
  simpa [List.getD, h1, h2] using this
def BitsPost (w : World) (xs : List Int) (e : Ending) (w' : World) : Prop :=
  ∃ v, e = .returned (.tuple #[v, .bool (xs.all bitB)]) ∧ RowG Value.bool false w' v (bitsL xs) ∧ Below w.heap.size w w'

set_option maxRecDepth 4000 in
set_option maxHeartbeats 1000000 in
theorem bits_any (xs : List Int) (w : World) (hb : Bts xs) (hn : xs.length ≤ 4000000) :
    Calls Try.prog 13 #[.string (strOfNums xs)] w (BitsPost w xs) := by
  have HS := Lib.hid (str_at hb)
  have hsz := strOfNums_size xs
  generalize strOfNums xs = s at *
  have HNO := Lib.hid (fun k hk => @all_no xs bitB k hk)
  have HYES := Lib.hid (@all_yes xs bitB)
  generalize hN : xs.length = n at *
  have HB := Lib.hid hb.at; clear hb
  have HN := Lib.hid hN; clear hN
  go_enter Try.func13, Try.ntmps13
  go_wp2_with fail
  go_loop [4, 9] (fun _ i => ∃ k : Nat, k ≤ n ∧ i = .int .i64 k ∧ Hid (∀ j, j < k → bitB (xs.getD j 0) = true)) (fun _ i => n - (intOf i).toNat)
  case atStart => exact ⟨0, Nat.zero_le _, rfl, fun j hj => absurd hj (Nat.not_lt_zero _)⟩
  case round =>
    obtain ⟨k, hk, rfl, HQ⟩ := hrel
    by_cases hlt : k < n
    · have hy := HS.out k
      obtain ⟨hb1, hb2⟩ := HB.out k
      have HF := Lib.hid (HNO.out k hlt)
      have HT := Lib.hid (fun (h : bitB (xs.getD k 0) = true) => show ∀ j, j < k + 1 → bitB (xs.getD j 0) = true from fun j hj => by
        by_cases e : j = k
        · rw [e]; exact h
        · exact HQ.out j (by omega))
      generalize xs.getD k 0 = y at *
      cases hbit : bitB y with
      | true =>
        have HT' := Lib.hid (HT.out hbit)
        have HI := Lib.hid (fun W => hbit ▸ is_bit y W hb1 hb2)
        clear HT HF hbit
        go_wp2_with (go_at_call 20; refine (HI.out _).mono ?_; rintro e w' ⟨rfl, rfl⟩)
        go_round
        case rel => exact ⟨k + 1, by omega, by go_num, HT'.out⟩
        case measure => simp [intOf]; omega
      | false =>
        have HF' := Lib.hid (HF.out hbit)
        have HI := Lib.hid (fun W => hbit ▸ is_bit y W hb1 hb2)
        clear HT HF hbit
        go_wp2_with (go_at_call 20; refine (HI.out _).mono ?_; rintro e w' ⟨rfl, rfl⟩)
        go_ret2
        unfold BitsPost
        exact ⟨.slice none 0 0, by rw [HF'.out]; rfl, by rw [show bitsL xs = [] by unfold bitsL; rw [HF'.out]; rfl]; exact RowG.nil _ _ _, Below.refl _ _⟩
    · have hkn : k = n := by omega
      have HA := Lib.hid (HYES.out fun j hj => HQ.out j (by omega))
      have HBL := Lib.hid (show bitsL xs = xs.map (fun x => x == 49) by unfold bitsL; rw [HA.out]; rfl)
      clear hlt hk HQ HNO HYES
      subst hkn
      go_wp2_with (at_make; refine wpList_makeG Value.bool false _ _ 1 Try.underlying33 infoBl rfl (by decide) rfl _ _ rfl _ k rfl rfl (by omega) ?_; intro w1 hm hb1 hs1)
      generalize hq : w.heap.size = q at *
      go_loopw [6, 23] (fun _ i wr => ∃ (j : Nat) (bs : List Bool), j ≤ k ∧ i = .int .i64 j ∧ CelG Value.bool false wr q bs ∧ Below q w wr ∧ Hid (bs.length = k) ∧ Hid (∀ i, i < j → bs.getD i false = (xs.getD i 0 == 49))) (fun _ i _ => k - (intOf i).toNat)
      case atStart => exact ⟨0, _, Nat.zero_le _, rfl, hm, hb1, by simp [Hid], fun j hj => absurd hj (Nat.not_lt_zero _)⟩
      case round =>
        obtain ⟨j, bs, hj, rfl, hc, hbr, HL, HQ⟩ := hrel
        clear hm hb1 hs1
        by_cases hlt : j < k
        · have hy := HS.out j
          have g3 := hc.cells j (by rw [HL.out]; exact hlt)
          have g4 := hc.free j
          have HST := Lib.hid (fun (y : Bool) (hy : (xs.getD j 0 == 49) = y) => show ∀ i, i < j + 1 → (bs.set j y).getD i false = (xs.getD i 0 == 49) from fun i hi => by
            rw [getD_setG, HL.out]
            by_cases e : j = i
            · subst e; rw [if_pos ⟨rfl, hlt⟩, hy]
            · rw [if_neg (fun hh => e hh.1)]; exact HQ.out i (by omega))
          generalize xs.getD j 0 = y at *
          generalize bs.getD j false = b0 at *
          go_wp2
          go_roundw
          case rel => exact ⟨j + 1, bs.set j (y == 49), by omega, by go_num, hc.set j _, by rw [← hq]; exact (hq ▸ hbr).setCell (Nat.le_refl _) _, by simpa [Hid] using HL.out, HST.out _ rfl⟩
          case measure => go_light; simp [intOf]; omega
        · have hjk : j = k := by omega
          subst hjk
          clear hlt hj
          go_wp2
          go_ret2
          unfold BitsPost
          refine ⟨.slice (some ⟨q, 0, none⟩) j j, by rw [HA.out]; rfl, ?_, by rw [hq]; exact hbr⟩
          rw [HBL.out]
          have e : bs = xs.map (fun x => x == 49) := getD_extG (d := false) (by rw [HL.out]; simp [HN.out]) fun i hi => by
            have hi' : i < j := by rw [HL.out] at hi; exact hi
            rw [HQ.out i hi']
            have : i < xs.length := by rw [HN.out]; exact hi'
            simp [List.getD, this]
          rw [← e]
          have := hc.row j (by rw [HL.out]; exact Nat.le_refl _) (by unfold maxLen; omega)
          rwa [HL.out] at this

set_option maxRecDepth 4000 in
set_option maxHeartbeats 1000000 in
theorem refBits_any (xs : List Int) (w : World) (hb : Bts xs) (hn : xs.length ≤ 4000000) :
    Calls Try.prog 14 #[.string (strOfNums xs)] w (BitsPost w xs) := by
  have HS := Lib.hid (str_at hb)
  have hsz := strOfNums_size xs
  generalize strOfNums xs = s at *
  have HNO := Lib.hid (fun k hk => @all_no xs bitB k hk)
  have HYES := Lib.hid (@all_yes xs bitB)
  generalize hN : xs.length = n at *
  have HN := Lib.hid hN; clear hN
  clear hb
  go_enter Try.func14, Try.ntmps14
  go_wp2_with fail
  go_loopw [4, 5] (fun v i wr => ∃ k : Nat, k ≤ n ∧ i = .int .i64 k ∧ wr.ownsRow w.heap.size 4 1 v k (((xs.take k).map (fun x => x == 49)).map Value.bool) ∧ Below w.heap.size w wr ∧ Hid (∀ j, j < k → bitB (xs.getD j 0) = true)) (fun _ i _ => n - (intOf i).toNat)
  case atStart => exact ⟨0, Nat.zero_le _, rfl, World.ownsRow_nil _ _ _ _, Below.refl _ _, fun j hj => absurd hj (Nat.not_lt_zero _)⟩
  case round =>
    obtain ⟨k, hk, rfl, hown, hbr, HQ⟩ := hrel
    by_cases hlt : k < n
    · have hy := HS.out k
      have HF := Lib.hid (HNO.out k hlt)
      have HT := Lib.hid (fun (h : bitB (xs.getD k 0) = true) => show ∀ j, j < k + 1 → bitB (xs.getD j 0) = true from fun j hj => by
        by_cases e : j = k
        · rw [e]; exact h
        · exact HQ.out j (by omega))
      have HTK := Lib.hid (show (xs.take (k + 1)).map (fun x => x == 49) = (xs.take k).map (fun x => x == 49) ++ [xs.getD k 0 == 49] by rw [takeSnocI xs k (by rw [HN.out]; exact hlt), List.map_append]; rfl)
      generalize xs.getD k 0 = y at *
      have hBB := hbr.size
      by_cases h0 : y = 48
      · subst h0
        have HT' := Lib.hid (HT.out rfl)
        clear HT HF
        go_wp2_with (at_builtin; refine wpList_app1G Value.bool _ _ _ 1 Try.underlying33 infoBl rfl (by decide) rfl _ _ rfl wr w.heap.size _ _ _ _ rfl hown hBB (by omega) rfl rfl ?_; intro v' w2 hown2 hap)
        go_roundw
        case rel => exact ⟨k + 1, by omega, by go_num, by rw [HTK.out]; exact hown2, (hbr.trans hap.below), HT'.out⟩
        case measure => go_light; simp [intOf]; omega
      · have b0 : (y != 48) = true := by simp [h0]
        by_cases h1 : y = 49
        · subst h1
          have HT' := Lib.hid (HT.out rfl)
          clear HT HF
          go_wp2_with (at_builtin; refine wpList_app1G Value.bool _ _ _ 1 Try.underlying33 infoBl rfl (by decide) rfl _ _ rfl wr w.heap.size _ _ _ _ rfl hown hBB (by omega) rfl rfl ?_; intro v' w2 hown2 hap)
          go_roundw
          case rel => exact ⟨k + 1, by omega, by go_num, by rw [HTK.out]; exact hown2, (hbr.trans hap.below), HT'.out⟩
          case measure => go_light; simp [intOf]; omega
        · have b1 : (y != 49) = true := by simp [h1]
          have HF' := Lib.hid (HF.out (by unfold bitB; rw [decide_eq_false h0, decide_eq_false h1]; rfl))
          clear HT HF
          go_wp2
          go_ret2
          unfold BitsPost
          exact ⟨.slice none 0 0, by rw [HF'.out]; rfl, by rw [show bitsL xs = [] by unfold bitsL; rw [HF'.out]; rfl]; exact RowG.nil _ _ _, hbr⟩
    · have hkn : k = n := by omega
      have HA := Lib.hid (HYES.out fun j hj => HQ.out j (by omega))
      have HBL := Lib.hid (show bitsL xs = xs.map (fun x => x == 49) by unfold bitsL; rw [HA.out]; rfl)
      have HTK := Lib.hid (show xs.take k = xs by rw [hkn, ← HN.out]; simp)
      rw [HTK.out] at hown
      clear hlt hk HQ HNO HYES HTK
      subst hkn
      go_wp2
      go_ret2
      unfold BitsPost
      exact ⟨_, by rw [HA.out]; rfl, by rw [HBL.out]; exact own_rowG hown, hbr⟩
end Go.Proofs.Ytijdangaffnckaa
