/- The contract of the document's Clauses: what 'clausesG' says. Conditions: the graph lies in memory ('GOp'), the clauses off it ('OffC'); the literals are variables' of its inputs. -/
import Derived.Test.YtbighmmjmklioaaDoorGwM
import Derived.Test.YtbighmmjmklioaaDoorGwK
namespace Go.Proofs.YtbighmmjmklioaaDoor
open Go.RowKit

theorem getD_mem9 {l : List Int} {j : Nat} (h : j < l.length) : l.getD j 0 ∈ l := by simp [List.getD, h]
theorem litI_snoc9 (ls : List Int) (k : Nat) (hk : k < ls.length) : (ls.take (k + 1)).map litI = (ls.take k).map litI ++ [litI (ls.getD k 0)] := by
  rw [List.take_succ_eq_append_getElem hk, List.map_append]; simp [List.getD, hk]

section
variable {G : World → List Nat → Gr → Prop} {E : World → List Nat → Prop} {p : Nat} {S : List Nat} {g : Gr}

set_option maxRecDepth 8000 in
set_option maxHeartbeats 4000000 in
theorem rcl0_any (H : GOp G E (.pointer (some ⟨p, 0, none⟩)) 48 52) {w : World} (hE : E w S) (hG : G w S g) (v : Value) (cs : List (List Int)) (hv : OffC w S v cs) (hcs : LitsIn g.n cs) (hnc : ∀ c ∈ cs, c.length ≤ 1000) (hnl : cs.length ≤ 1000) :
    Calls Tryd.prog 25 #[.pointer (some ⟨p, 0, none⟩), v] w fun e w' => e = .returned (.int .i64 (clausesG g cs).2) ∧ GIn G w S (clausesG g cs).1 w' := by
  have hlen := H.len hG
  have HST := Lib.hid (GRow.start hG)
  have HR : Hid (clausesG g cs = allG (clsG g cs).1 (clsG g cs).2) := rfl
  have HBD := Lib.hid (clsG_bd hlen cs)
  have HST2 := Lib.hid (fun k (hk : k < cs.length) => clsG_take g cs k hk)
  have HLB : Hid (∀ k, k < cs.length → ∀ l ∈ (cs.getD k []), l ≠ 0 ∧ l.natAbs ≤ (clsG g (cs.take k)).1.n) := fun k hk l hl => by
    rw [clsG_n]
    exact hcs _ (by simp [List.getD, hk]) l hl
  have HCB : Hid (∀ k, k < cs.length → (cs.getD k []).length ≤ 1000) := fun k hk => hnc _ (by simp [List.getD, hk])
  have HN8 : Hid (g.n ≤ 8000) := by unfold Hid; unfold Gr.len at hlen; omega
  have HNN : Hid (∀ k, (clsG g (cs.take k)).1.n = g.n) := fun k => clsG_n g _
  have HTE : Hid (cs.take cs.length = cs) := List.take_length
  obtain ⟨a, c, rfl, h1, h2, h3⟩ := hv
  unfold maxLen at h2
  have HX := Lib.hid h3; clear h3
  generalize clausesG g cs = R at *
  clear hcs hnc hG hlen
  generalize hn : cs.length = n at *
  clear hn
  go_enter Tryd.func25, Tryd.ntmps25
  go_wp2_with fail
  go_loopw [6, 5, 7, 8] (fun i u _ _ wr => ∃ (k : Nat) (s : Gr × List Int), k ≤ n ∧ i = .int .i64 k ∧ GRow G w S s.1 u s.2 wr ∧ Hid (s = clsG g (cs.take k)) ∧ Hid (s.2.length = k)) (fun i _ _ _ _ => n - (intOf i).toNat)
  case atStart => exact ⟨0, (g, []), Nat.zero_le _, rfl, HST.out, by rw [List.take_zero]; rfl, rfl⟩
  case round =>
    obtain ⟨k, s, hk, rfl, hGr, HS, HSL⟩ := hrel
    have hx1 : s.2.length ≤ 1000 := by rw [HSL.out]; omega
    clear HST
    obtain ⟨ab, cb, rfl, _, hcb⟩ := own_shape hGr.row
    unfold maxLen at hcb
    by_cases hlt : k < n
    · obtain ⟨b, off, ha, hb, hnS, hc⟩ := HX.out.resolve_left (by omega)
      subst ha
      obtain ⟨q, hq, ho⟩ := hc k hlt
      have HLK := Lib.hid (HLB.out k hlt)
      have hck := HCB.out k hlt
      have hn8 : s.1.n ≤ 8000 := by rw [HS.out, HNN.out]; exact HN8.out
      have HNX := Lib.hid (HST2.out k hlt)
      rw [← HS.out] at HLK HNX
      have HNX2 : Hid (((anyG s.1 ((cs.getD k []).map litI)).1, s.2 ++ [(anyG s.1 ((cs.getD k []).map litI)).2]) = clsG g (cs.take (k + 1))) := HNX.out.symm
      have HLT : Hid (∀ l ∈ (cs.getD k []).map litI, 0 ≤ l ∧ l ≤ 19000) := fun l hl => by
        obtain ⟨x, hx, rfl⟩ := List.mem_map.1 hl
        have := litI_bd (HLK.out x hx).1 (HLK.out x hx).2
        omega
      have HAN : Hid (∀ W z, GRow2 G w S s.1 (.slice ab s.2.length cb) s.2 z ((cs.getD k []).map litI) W → Calls Tryd.prog 22 #[.pointer (some ⟨p, 0, none⟩), z] W fun e w' => e = .returned (.int .i64 (anyG s.1 ((cs.getD k []).map litI)).2) ∧ GRow G w S (anyG s.1 ((cs.getD k []).map litI)).1 (.slice ab s.2.length cb) s.2 w') := fun W z h =>
        h.callz H hE fun S' hE' hG' ho' => rany_any H hE' (GIn.refl hG') z _ ho' HLT.out (by rw [List.length_map]; exact hck)
      have HAPP : Hid (∀ r W w' u', GRow G w S r (.slice ab s.2.length cb) s.2 W → ∀ x, w'.ownsRow w.heap.size 3 1 u' (s.2.length + 1) ((s.2 ++ [x]).map (Value.int .i64)) → App w.heap.size W w' (.slice ab s.2.length cb) u' → GRow G w S r u' (s.2 ++ [x]) w') := fun r W w' u' h1 x h2 h3 => h1.app H.kind h2 h3
      have HST3 := Lib.hid (GRow2.start hGr)
      have HY : Hid (∀ j, j < (cs.getD k []).length → (cs.getD k []).getD j 0 ≠ 0 ∧ ((cs.getD k []).getD j 0).natAbs ≤ s.1.n) := fun j hj => HLK.out _ (getD_mem9 hj)
      obtain ⟨aq, cq, rfl, ho1, ho2, ho3⟩ := ho
      unfold maxLen at ho2
      have HO := Lib.hid ho3
      have HT3 := Lib.hid (fun j (hj : j < (cs.getD k []).length) => litI_snoc9 (cs.getD k []) j hj)
      have HTE3 : Hid ((cs.getD k []).take (cs.getD k []).length = cs.getD k []) := List.take_length
      have HQ : Hid (∀ W, Chg S w W → W.cell? ⟨b, off + k, none⟩ = some (.slice aq (cs.getD k []).length cq)) := fun W hC => (hC.cell (o := off + k) hb hnS).trans hq
      clear hc hq ho3 HNX HLK HLT hGr HLB HCB HST2
      generalize hci : cs.getD k [] = ci at *
      clear hci
      generalize hml : ci.length = m at *
      have HML := Lib.hid hml
      clear hml
      go_wp2_with fail
      go_loopw [8, 7] (fun i z wr2 => ∃ (t : Nat) (ys : List Int), t ≤ m ∧ i = .int .i64 t ∧ GRow2 G w S s.1 (.slice ab s.2.length cb) s.2 z ys wr2 ∧ Hid (ys = (ci.take t).map litI) ∧ Hid (ys.length = t)) (fun i _ _ => m - (intOf i).toNat)
      case atStart => exact ⟨0, [], Nat.zero_le _, rfl, HST3.out, by rw [List.take_zero]; rfl, rfl⟩
      case round =>
        obtain ⟨t, ys, ht, rfl, hGr, HYS, HYL⟩ := hrel
        have hx2 : ys.length ≤ 1000 := by rw [HYL.out]; omega
        clear HST3
        obtain ⟨az, cz, rfl, _, hcz⟩ := own_shape hGr.row
        unfold maxLen at hcz
        have x0 := HQ.out _ hGr.chg
        by_cases hlt2 : t < m
        · obtain ⟨b2, off2, ha2, hb2, hnS2, hc2⟩ := HO.out.resolve_left (by omega)
          subst ha2
          have y0 := (hGr.chg.cell (o := off2 + t) hb2 hnS2).trans (hc2 t hlt2)
          obtain ⟨hy0, hy1⟩ := HY.out t hlt2
          have HTK := Lib.hid (HT3.out t hlt2)
          rw [← HYS.out] at HTK
          clear hc2
          generalize ci.getD t 0 = y at *
          have hyb : -8000 ≤ y ∧ y ≤ 8000 := by omega
          have HIN : Hid (∀ q : Int, q = (y.natAbs : Int) → Calls Tryd.prog 52 #[.pointer (some ⟨p, 0, none⟩), .int .i64 (q - 1)] wr fun e w' => e = .returned (.int .i64 (2 * q)) ∧ GRow2 G w S s.1 (.slice ab s.2.length cb) s.2 (.slice az ys.length cz) ys w') := fun q hq => by
            subst hq
            refine hGr.call H hE (r := (s.1, 2 * (y.natAbs : Int))) fun S' hE' hG' _ => ?_
            have := H.inp hE' hG' ((y.natAbs : Int) - 1) ⟨by omega, by omega⟩
            rw [show inG s.1 ((y.natAbs : Int) - 1) = (s.1, 2 * (y.natAbs : Int)) by unfold inG; rw [if_pos (by omega)]; congr 1; omega] at this
            exact this
          have HAP2 : Hid (∀ W w' u' x, GRow2 G w S s.1 (.slice ab s.2.length cb) s.2 (.slice az ys.length cz) ys W → w'.ownsRow w.heap.size 3 1 u' (ys.length + 1) ((ys ++ [x]).map (Value.int .i64)) → App w.heap.size W w' (.slice az ys.length cz) u' → GRow2 G w S s.1 (.slice ab s.2.length cb) s.2 u' (ys ++ [x]) w') := fun W w' u' x h1 h2 h3 => h1.app H.kind h2 h3
          by_cases hpos : 0 < y
          · have HL : Hid (litI y = 2 * y) := by unfold Hid litI; rw [if_neg (by omega)]
            rw [HL.out] at HTK
            have HI1 := Lib.hid (HIN.out y (by omega))
            clear HIN hGr HL hy1 hy0
            go_wp2_with fail
            refine HI1.out.mono ?_
            rintro e w2 ⟨rfl, hG2⟩
            have hown := hG2.row
            have hsz := hG2.chg.size
            have HG2 := Lib.hid hG2
            clear hG2
            go_wp2_with (at_builtin; refine wpList_app1 rfl _ _ rfl w2 w.heap.size _ _ _ (2 * y) hown hsz (by omega) rfl rfl ?_; intro u' w5 hown5 hap5)
            go_roundw
            case rel => exact ⟨t + 1, ys ++ [2 * y], by omega, by go_num, HAP2.out _ _ _ _ HG2.out hown5 hap5, HTK.out.symm, by unfold Hid; simp [HYL.out]⟩
            case measure => simp [intOf]; omega
          · have hneg : y < 0 := by omega
            have HL : Hid (litI y = bits .xor .i64 (2 * (-y)) 1) := by unfold Hid litI; rw [if_pos hneg]; exact (xor_oneI (2 * (-y)) (by omega) (by omega)).symm
            rw [HL.out] at HTK
            have HI1 := Lib.hid (HIN.out (-y) (by omega))
            clear HIN hGr HL hy1 hy0
            go_wp2_with fail
            refine HI1.out.mono ?_
            rintro e w2 ⟨rfl, hG2⟩
            have hown := hG2.row
            have hsz := hG2.chg.size
            have HG2 := Lib.hid hG2
            clear hG2
            go_wp2_with (at_builtin; refine wpList_app1 rfl _ _ rfl w2 w.heap.size _ _ _ (bits .xor .i64 (2 * (-y)) 1) hown hsz (by omega) rfl rfl ?_; intro u' w5 hown5 hap5)
            go_roundw
            case rel => exact ⟨t + 1, ys ++ [bits .xor .i64 (2 * (-y)) 1], by omega, by go_num, HAP2.out _ _ _ _ HG2.out hown5 hap5, HTK.out.symm, by unfold Hid; simp [HYL.out]⟩
            case measure => simp [intOf]; omega
        · have htm : m = t := by omega
          have HYE : Hid (ys = ci.map litI) := by
            have := HYS.out
            rw [← htm, HTE3.out] at this
            exact this
          have HC2 := Lib.hid (HAN.out wr (.slice az ys.length cz) (by rw [← HYE.out]; exact hGr))
          generalize anyG s.1 (ci.map litI) = r at *
          clear hGr
          go_wp2_with fail
          refine HC2.out.mono ?_
          rintro e w3 ⟨rfl, hG3⟩
          have hown := hG3.row
          have hsz := hG3.chg.size
          have HG3 := Lib.hid hG3
          clear hG3
          go_wp2_with (at_builtin; refine wpList_app1 rfl _ _ rfl w3 w.heap.size _ _ _ r.2 hown hsz (by omega) rfl rfl ?_; intro u' w5 hown5 hap5)
          go_roundw
          case rel => exact ⟨k + 1, (r.1, s.2 ++ [r.2]), by omega, by go_num, HAPP.out _ _ _ _ HG3.out _ hown5 hap5, HNX2.out, by unfold Hid; simp [HSL.out]⟩
          case measure => simp [intOf]; omega
    · have hkn : n = k := by omega
      have HR2 : Hid (s = clsG g cs) := by
        have := HS.out
        rw [← hkn, HTE.out] at this
        exact this
      have HCALL := Lib.hid (hGr.callu H hE (r := R) fun S' hE' hG' ho' => by
        rw [HR.out, ← HR2.out]
        exact rall_any H hE' (GIn.refl hG') _ _ ho' fun l hl => by
          have := HBD.out.1 l (by rw [← HR2.out]; exact hl)
          exact this)
      clear hGr
      go_wp2_with fail
      refine HCALL.out.mono ?_
      rintro e w2 ⟨rfl, hG2⟩
      have HG2 := Lib.hid hG2
      clear hG2
      go_wp2_with fail
      go_ret
      exact ⟨rfl, HG2.out⟩
end
end Go.Proofs.YtbighmmjmklioaaDoor
