/- Contracts of tseitin's Lit and with, of the document's Lit and clause: 'litC', 'withL'. Conditions: the literals are 64-bit ints of 0 and up, not too many; the clauses are the call's own. -/
import Derived.Test.YtmgepagdkfghlaaDoorTsP
import Derived.Test.YtmgepagdkfghlaaDoorClIG
import Derived.Test.YtmgepagdkfghlaaDoorGrC
import Derived.Test.YtmgepagdkfghlaaDoorEvl
import Derived.Deep.DeepCutAuto
namespace Go.Proofs.YtmgepagdkfghlaaDoor
open Go.RowKit

set_option maxHeartbeats 1000000 in
theorem tlit_any (l : Int) (w : World) (h1 : -9223372036854775808 ≤ l) (h2 : l ≤ 9223372036854775807) :
    Calls Tryd.prog 20 #[.int .i64 l] w fun e w' => e = .returned (.int .i64 (litC l)) ∧ w = w' := by
  have HL : Hid (litC l = if l < 2 then 0 else if l % 2 = 1 then -(l / 2) else l / 2) := rfl
  by_cases h0 : l < 2
  · rw [if_pos h0] at HL
    generalize litC l = z at *
    go_enter Tryd.func20, Tryd.ntmps20
    go_wp2
    go_ret
    exact ⟨ret_int HL.out.symm, rfl⟩
  · rw [if_neg h0] at HL
    by_cases h3 : l % 2 = 1
    · rw [if_pos h3] at HL
      generalize litC l = z at *
      go_enter Tryd.func20, Tryd.ntmps20
      go_wp2
      go_ret
      exact ⟨ret_int HL.out.symm, rfl⟩
    · rw [if_neg h3] at HL
      have h4 : l % 2 = 0 := by omega
      clear h3
      generalize litC l = z at *
      go_enter Tryd.func20, Tryd.ntmps20
      go_wp2
      go_ret
      exact ⟨ret_int HL.out.symm, rfl⟩

theorem and_oneB (l : Int) (h0 : 0 ≤ l) (h : l ≤ 9223372036854775807) : bits .and .i64 l 1 = l % 2 := by
  obtain ⟨n, rfl⟩ := Int.eq_ofNat_of_zero_le h0
  have hx : n &&& 1 < 2 ^ 63 := Nat.and_lt_two_pow _ (by omega)
  have e : bits .and .i64 (n : Int) 1 = IntKind.i64.wrap (((BitVec.ofInt 64 (n : Int)) &&& (BitVec.ofInt 64 1)).toNat : Int) := rfl
  rw [e, BitVec.toNat_and, BitVec.ofInt_natCast, BitVec.toNat_ofNat, Nat.mod_eq_of_lt (by omega), show (BitVec.ofInt 64 1).toNat = 1 from rfl, IntWalk.i64_in _ (by omega), Nat.and_one_is_mod]
  omega
set_option maxHeartbeats 1000000 in
theorem rlit13_any (l : Int) (w : World) (h1 : -9223372036854775808 ≤ l) (h2 : l ≤ 9223372036854775807) :
    Calls Tryd.prog 21 #[.int .i64 l] w fun e w' => e = .returned (.int .i64 (litC l)) ∧ w = w' := by
  have HL : Hid (litC l = if l < 2 then 0 else if l % 2 = 1 then -(l / 2) else l / 2) := rfl
  by_cases h0 : l < 2
  · rw [if_pos h0] at HL
    generalize litC l = z at *
    go_enter Tryd.func21, Tryd.ntmps21
    go_wp2
    go_ret
    exact ⟨ret_int HL.out.symm, rfl⟩
  · rw [if_neg h0] at HL
    have ha := and_oneB l (by omega) h2
    by_cases h3 : l % 2 = 1
    · rw [if_pos h3] at HL
      have hd : (bits .and .i64 l 1 == 1) = true := by rw [ha]; simp [h3]
      generalize litC l = z at *
      go_enter Tryd.func21, Tryd.ntmps21
      go_wp2
      go_ret
      exact ⟨ret_int HL.out.symm, rfl⟩
    · rw [if_neg h3] at HL
      have hd : (bits .and .i64 l 1 == 1) = false := by rw [ha]; simp [h3]
      clear h3
      generalize litC l = z at *
      go_enter Tryd.func21, Tryd.ntmps21
      go_wp2
      go_ret
      exact ⟨ret_int HL.out.symm, rfl⟩

/-- A clause just made, beside clauses that were there. -/
theorem CRow.join {w0 w : World} {B : Nat} {o c : Value} {xss : List (List Int)} {cur : List Int} (h : CRow w0 B o xss) (hb : Below w0.heap.size w0 w) (hB : B ≤ w0.heap.size) (hc : w.ownsRow w0.heap.size 3 1 c cur.length (cur.map (Value.int .i64))) : ∃ vs, ClG w B o c vs xss cur := by
  obtain ⟨c0, vs, cur0, hcl⟩ := h
  refine ⟨vs, hcl.len, own_keep hcl.out hb, fun j hj => ?_, own_base hc hB, fun g e e' => ?_⟩
  · obtain ⟨v, h1, h2, h3⟩ := hcl.each j hj
    exact ⟨v, h1, own_keep h2 hb, fun g e => ⟨Nat.lt_of_lt_of_le (h3 g e).1 hb.size, (h3 g e).2.1, fun e' => absurd (h3 g e).1 (Nat.not_lt.2 (hc.lt g e').1)⟩⟩
  · exact absurd (own_ltG hcl.out e) (Nat.not_lt.2 (hc.lt g e').1)

/-- What with answers. -/
def WithPost (W : World) (B : Nat) (xss : List (List Int)) (e : Ending) (w' : World) : Prop := (∃ o', e = .returned o' ∧ CRow w' B o' xss) ∧ Below B W w'

set_option maxRecDepth 8000 in
set_option maxHeartbeats 4000000 in
theorem with_any (o v : Value) (B : Nat) (xss : List (List Int)) (ls : List Int) (W : World) (hc : CRow W B o xss) (hB : B ≤ W.heap.size) (hv : Row W v ls) (hl : ls.length ≤ 10) (hls : ∀ l ∈ ls, 0 ≤ l ∧ l < 1000000) (hx : xss.length ≤ 1000000) :
    Calls Tryd.prog 28 #[o, v] W (WithPost W B (xss ++ withL ls)) := by
  obtain ⟨a, c, rfl, hv1, hv2, hv3⟩ := hv
  unfold maxLen at hv2
  have HV := Lib.hid hv3; clear hv3
  have HLS : Hid (∀ k, k < ls.length → 0 ≤ ls.getD k 0 ∧ ls.getD k 0 < 1000000) := fun k hk => hls _ (by simp [List.getD, hk])
  obtain ⟨ao, co, rfl, hor⟩ := hc.rows
  clear hor
  have HC := Lib.hid hc
  have HTK := Lib.hid (fun k hk => clauseC_take ls k hk)
  have HOK := Lib.hid (fun k hk => oneC_take ls k hk)
  have HO1 := Lib.hid (fun k hk h => withL_one (oneC_at ls k hk h))
  have HNO := Lib.hid (fun h => withL_no (ls := ls) h)
  have HTE : Hid (ls.take ls.length = ls) := List.take_length
  clear hls hc
  generalize hn : ls.length = n at *
  have HN := Lib.hid hn; clear hn
  generalize hr : xss.length = r at *
  have HR0 := Lib.hid hr; clear hr
  go_enter Tryd.func28, Tryd.ntmps28
  go_wp2_with fail
  go_loopw [5, 10, 7] (fun u i _ wr => ∃ (k : Nat) (cur : List Int), k ≤ n ∧ i = .int .i64 (k : Int) ∧ wr.ownsRow W.heap.size 3 1 u cur.length (cur.map (Value.int .i64)) ∧ Below W.heap.size W wr ∧ cur.length ≤ k ∧ Hid (cur = clauseC (ls.take k)) ∧ Hid (oneC (ls.take k) = false)) (fun _ i _ _ => n - (intOf i).toNat)
  case atStart => exact ⟨0, [], Nat.zero_le _, rfl, World.ownsRow_nil _ _ _ _, Below.refl _ _, Nat.le_refl _, by simp [Hid, clauseC], by simp [Hid, oneC]⟩
  case round =>
    obtain ⟨k, cur, hk, rfl, hown, hbr, hcl, HS, HF⟩ := hrel
    obtain ⟨au, cu, rfl, _, hcu⟩ := own_shape hown
    unfold maxLen at hcu
    have HOWN := Lib.hid hown
    have HBR := Lib.hid hbr
    have HCUR := Lib.hid (show cur.length = cur.length from rfl)
    by_cases hlt : k < n
    · obtain ⟨b, off, ha, hbl, hcl2⟩ := HV.out.resolve_left (by omega)
      subst ha
      have y0 := (hbr.cell (p := ⟨b, off + k, none⟩) hbl).trans (hcl2 k hlt)
      obtain ⟨p1, p2⟩ := HLS.out k hlt
      have HT1 := Lib.hid (HTK.out k hlt)
      have HT2 := Lib.hid (HOK.out k hlt)
      have HT3 := Lib.hid (HO1.out k hlt)
      rw [← HS.out] at HT1
      rw [HF.out, Bool.false_or] at HT2
      clear hcl2
      generalize ls.getD k 0 = l at *
      by_cases h1 : l = 1
      · subst h1
        have HR := Lib.hid (HC.out.keep hbr)
        have HE := Lib.hid (HT3.out rfl)
        clear hown hbr
        go_wp2_with fail
        go_ret
        rw [HE.out, List.append_nil]
        exact ⟨⟨_, rfl, HR.out⟩, HBR.out.mono hB⟩
      · have HF2 : Hid (oneC (ls.take (k + 1)) = false) := by unfold Hid; rw [HT2.out]; simp [h1]
        by_cases h0 : l = 0
        · subst h0
          have HT4 : Hid (cur = clauseC (ls.take (k + 1))) := by unfold Hid; rw [HT1.out]; simp [putC]
          clear hown hbr HT1 HT2 HT3
          go_wp2_with fail
          go_roundw
          case rel => exact ⟨k + 1, cur, by omega, by go_num, HOWN.out, HBR.out, by omega, HT4.out, HF2.out⟩
          case measure => simp [intOf]; omega
        · have HT4 : Hid (cur ++ [litC l] = clauseC (ls.take (k + 1))) := by unfold Hid; rw [HT1.out]; simp [putC, h0]
          have b0 : (l == 0) = false := by simp [h0]
          have b1 : (l == 1) = false := by simp [h1]
          have HLT := Lib.hid (fun w' => tlit_any l w' (by omega) (by omega))
          have hsz := hbr.size
          generalize litC l = z at *
          generalize hcn : cur.length = cn at *
          have HCN := Lib.hid hcn
          clear hbr HT1 HT2 HT3 h1 h0 hcn HCUR
          go_wp2_with (first
            | (go_at_call 20; refine (HLT.out _).mono ?_; rintro e w' ⟨rfl, rfl⟩)
            | (at_builtin; refine wpList_app1 rfl _ _ rfl wr W.heap.size _ _ _ _ hown hsz (by omega) rfl rfl ?_; intro v' w2 hown2 hap))
          go_roundw
          case rel => exact ⟨k + 1, cur ++ [z], by omega, by go_num, by rw [List.length_append, HCN.out]; exact hown2, HBR.out.trans hap.below, by rw [List.length_append, HCN.out, List.length_singleton]; omega, HT4.out, HF2.out⟩
          case measure => simp [intOf]; omega
    · have hkn : k = n := by omega
      subst hkn
      have hE : cur = clauseC ls := by rw [HS.out, HTE.out]
      have hF : oneC ls = false := by have := HF.out; rwa [HTE.out] at this
      have HW := Lib.hid (HNO.out hF)
      rw [← hE] at HW
      obtain ⟨vs, hcg⟩ := HC.out.join hbr hB hown
      have hBW : B ≤ wr.heap.size := Nat.le_trans hB hbr.size
      have hro := hcg.out
      rw [HR0.out] at hro
      clear hown hE hF
      go_wp2_with (at_builtin; refine wpList_appV 27 23 (.slice none 0 0) 24 Tryd.underlying27 infoInts rfl (by decide) rfl _ _ rfl wr B _ _ _ _ rfl hro hBW (by omega) _ rfl rfl rfl ?_; intro o' w2 ho2 hap2; have hI2 := hcg.push hap2 (by rw [HR0.out]; exact ho2); obtain ⟨ao2, capo, rfl, hrows⟩ := hI2.rows)
      go_ret
      rw [HW.out]
      have hI3 := hI2
      rw [show (xss ++ [cur]).length = xss.length + 1 by simp] at hI3
      exact ⟨⟨_, rfl, ⟨_, _, _, hI3⟩⟩, (HBR.out.mono hB).trans hap2.below⟩

/-- What clause answers: the literals behind the first one, and whether there is a clause. -/
def ClausePost (W : World) (x : Int) (ls : List Int) (e : Ending) (w' : World) : Prop :=
  (∃ z cur, e = .returned (.tuple #[z, .bool (!oneC ls)]) ∧ w'.ownsRow W.heap.size 3 1 z cur.length (cur.map (Value.int .i64)) ∧ (oneC ls = false → cur = (if x = 0 then [] else [x]) ++ clauseC ls)) ∧ Below W.heap.size W w'

set_option maxRecDepth 8000 in
set_option maxHeartbeats 4000000 in
theorem clause_any (x : Int) (v : Value) (ls : List Int) (W : World) (hv : Row W v ls) (hx : in64 x) (hl : ls.length ≤ 10) (hls : ∀ l ∈ ls, 0 ≤ l ∧ l < 1000000) :
    Calls Tryd.prog 36 #[.int .i64 x, v] W (ClausePost W x ls) := by
  obtain ⟨a, c, rfl, hv1, hv2, hv3⟩ := hv
  unfold maxLen at hv2
  have HV := Lib.hid hv3; clear hv3
  have HLS : Hid (∀ k, k < ls.length → 0 ≤ ls.getD k 0 ∧ ls.getD k 0 < 1000000) := fun k hk => hls _ (by simp [List.getD, hk])
  have HTK := Lib.hid (fun k hk => clauseC_take ls k hk)
  have HOK := Lib.hid (fun k hk => oneC_take ls k hk)
  have HO1 := Lib.hid (fun k hk h => oneC_at ls k hk h)
  have HTE : Hid (ls.take ls.length = ls) := List.take_length
  obtain ⟨hx1, hx2⟩ := hx
  clear hls
  generalize hn : ls.length = n at *
  have HN := Lib.hid hn; clear hn
  go_enter Tryd.func36, Tryd.ntmps36
  go_upto_if 9 with fail
  go_cut [6] (fun u wr => ∃ cur : List Int, wr.ownsRow W.heap.size 3 1 u cur.length (cur.map (Value.int .i64)) ∧ Below W.heap.size W wr ∧ cur.length ≤ 1 ∧ Hid (cur = if x = 0 then [] else [x]))
  case first =>
    by_cases h0 : x = 0
    · subst h0
      go_wp2_with fail
      go_meet
      exact ⟨[], World.ownsRow_nil _ _ _ _, Below.refl _ _, by simp, rfl⟩
    · have b0 : (x != 0) = true := by simp [h0]
      go_wp2_with (at_builtin; refine wpList_app1 rfl _ _ rfl W W.heap.size _ _ [] _ (World.ownsRow_nil _ _ _ _) (Nat.le_refl _) (by omega) rfl rfl ?_; intro v' w2 hown2 hap)
      go_meet
      exact ⟨[x], hown2, hap.below, by simp, by simp [Hid, h0]⟩
  case rest =>
    obtain ⟨x0, hown0, hb0, hl0, HX0⟩ := hcut
    obtain ⟨w0, rfl⟩ : ∃ w0 : World, w0 = wc := ⟨_, rfl⟩
    have HO0 := Lib.hid hown0
    have HB0 := Lib.hid hb0
    clear hown0 hb0
    go_wp2_with fail
    go_loopw [6, 7] (fun u i wr => ∃ (k : Nat) (cur : List Int), k ≤ n ∧ i = .int .i64 (k : Int) ∧ wr.ownsRow W.heap.size 3 1 u cur.length (cur.map (Value.int .i64)) ∧ Below W.heap.size W wr ∧ cur.length ≤ k + 1 ∧ Hid (cur = x0 ++ clauseC (ls.take k)) ∧ Hid (oneC (ls.take k) = false)) (fun _ i _ => n - (intOf i).toNat)
    case atStart => exact ⟨0, x0, Nat.zero_le _, rfl, HO0.out, HB0.out, hl0, by simp [Hid, clauseC], by simp [Hid, oneC]⟩
    case round =>
      obtain ⟨k, cur, hk, rfl, hown, hbr, hcl, HS, HF⟩ := hrel
      clear HO0 HB0 hl0
      obtain ⟨au, cu, rfl, _, hcu⟩ := own_shape hown
      unfold maxLen at hcu
      have HOWN := Lib.hid hown
      have HBR := Lib.hid hbr
      by_cases hlt : k < n
      · obtain ⟨b, off, ha, hbl, hcl2⟩ := HV.out.resolve_left (by omega)
        subst ha
        have y0 := (hbr.cell (p := ⟨b, off + k, none⟩) hbl).trans (hcl2 k hlt)
        obtain ⟨p1, p2⟩ := HLS.out k hlt
        have HT1 := Lib.hid (HTK.out k hlt)
        have HT2 := Lib.hid (HOK.out k hlt)
        have HT3 := Lib.hid (HO1.out k hlt)
        rw [HF.out, Bool.false_or] at HT2
        clear hcl2
        generalize ls.getD k 0 = l at *
        by_cases h1 : l = 1
        · subst h1
          have HE := Lib.hid (HT3.out rfl)
          clear hown hbr
          go_wp2_with fail
          go_ret2
          exact ⟨⟨_, [], by rw [HE.out]; rfl, World.ownsRow_nil _ _ _ _, fun h => by rw [HE.out] at h; cases h⟩, HBR.out⟩
        · have HF2 : Hid (oneC (ls.take (k + 1)) = false) := by unfold Hid; rw [HT2.out]; simp [h1]
          by_cases h0 : l = 0
          · subst h0
            have HT4 : Hid (cur = x0 ++ clauseC (ls.take (k + 1))) := by unfold Hid; rw [HT1.out, HS.out]; simp [putC]
            clear hown hbr HT1 HT2 HT3
            go_wp2_with fail
            go_roundw
            case rel => exact ⟨k + 1, cur, by omega, by go_num, HOWN.out, HBR.out, by omega, HT4.out, HF2.out⟩
            case measure => simp [intOf]; omega
          · have HT4 : Hid (cur ++ [litC l] = x0 ++ clauseC (ls.take (k + 1))) := by unfold Hid; rw [HT1.out, HS.out]; simp [putC, h0]
            have b0 : (l == 0) = false := by simp [h0]
            have b1 : (l == 1) = false := by simp [h1]
            have HLT := Lib.hid (fun w' => rlit13_any l w' (by omega) (by omega))
            have hsz := hbr.size
            generalize litC l = z at *
            generalize hcn : cur.length = cn at *
            have HCN := Lib.hid hcn
            clear hbr HT1 HT2 HT3 h1 h0 hcn
            go_wp2_with (first
              | (go_at_call 21; refine (HLT.out _).mono ?_; rintro e w' ⟨rfl, rfl⟩)
              | (at_builtin; refine wpList_app1 rfl _ _ rfl wr W.heap.size _ _ _ _ hown hsz (by omega) rfl rfl ?_; intro v' w2 hown2 hap))
            go_roundw
            case rel => exact ⟨k + 1, cur ++ [z], by omega, by go_num, by rw [List.length_append, HCN.out]; exact hown2, HBR.out.trans hap.below, by rw [List.length_append, HCN.out, List.length_singleton]; omega, HT4.out, HF2.out⟩
            case measure => simp [intOf]; omega
      · have hkn : k = n := by omega
        subst hkn
        have HE : Hid (cur = (if x = 0 then [] else [x]) ++ clauseC ls) := by unfold Hid; rw [HS.out, HTE.out, HX0.out]
        have HG : Hid (oneC ls = false) := by have := HF.out; rwa [HTE.out] at this
        clear hown hbr
        go_wp2_with fail
        go_ret2
        exact ⟨⟨_, cur, by rw [HG.out]; rfl, HOWN.out, fun _ => HE.out⟩, HBR.out⟩
end Go.Proofs.YtmgepagdkfghlaaDoor
