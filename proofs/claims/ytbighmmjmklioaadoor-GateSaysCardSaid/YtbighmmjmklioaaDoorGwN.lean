/- Contracts of gate's inputs and Clauses: what 'litI', 'clausesG' say. Conditions: the graph lies in memory ('GOp'), the clauses off it ('OffC'); the literals are variables' of its inputs. -/
import Derived.Test.YtbighmmjmklioaaDoorGwL
import Derived.Test.YtbighmmjmklioaaDoorGwK
namespace Go.Proofs.YtbighmmjmklioaaDoor
open Go.RowKit

theorem litI_snoc (ls : List Int) (k : Nat) (hk : k < ls.length) : (ls.take (k + 1)).map litI = (ls.take k).map litI ++ [litI (ls.getD k 0)] := by
  rw [List.take_succ_eq_append_getElem hk, List.map_append]; simp [List.getD, hk]

section
variable {G : World → List Nat → Gr → Prop} {E : World → List Nat → Prop} {p : Nat} {S : List Nat} {g : Gr}

set_option maxRecDepth 8000 in
set_option maxHeartbeats 2000000 in
theorem ginputs9_any (H : GOp G E (.pointer (some ⟨p, 0, none⟩)) 35 64) {w : World} (hE : E w S) (hG : G w S g) (v : Value) (ls : List Int) (hv : OffI w S v ls) (hls : ∀ l ∈ ls, l ≠ 0 ∧ l.natAbs ≤ g.n) (hnl : ls.length ≤ 1000) :
    Calls Tryd.prog 51 #[.pointer (some ⟨p, 0, none⟩), v] w fun e w' => ∃ z, e = .returned z ∧ GRow G w S g z (ls.map litI) w' := by
  have hlen := H.len hG
  have hn8 : g.n ≤ 8000 := by unfold Gr.len at hlen; omega
  have HST := Lib.hid (GRow.start hG)
  obtain ⟨a, c, rfl, h1, h2, h3⟩ := hv
  unfold maxLen at h2
  have HX := Lib.hid h3; clear h3
  have HB : Hid (∀ k, k < ls.length → ls.getD k 0 ≠ 0 ∧ (ls.getD k 0).natAbs ≤ g.n) := fun k hk => hls (ls.getD k 0) (by simp [List.getD, hk])
  have HT := Lib.hid (fun k (hk : k < ls.length) => litI_snoc ls k hk)
  have HTE : Hid (ls.take ls.length = ls) := List.take_length
  clear hls hG hlen
  generalize hn : ls.length = n at *
  clear hn
  go_enter Tryd.func51, Tryd.ntmps51
  go_wp2_with fail
  go_loopw [11, 5, 7, 8] (fun i u _ _ wr => ∃ (k : Nat) (xs : List Int), k ≤ n ∧ i = .int .i64 k ∧ GRow G w S g u xs wr ∧ Hid (xs = (ls.take k).map litI) ∧ Hid (xs.length = k)) (fun i _ _ _ _ => n - (intOf i).toNat)
  case atStart => exact ⟨0, [], Nat.zero_le _, rfl, HST.out, by rw [List.take_zero]; rfl, rfl⟩
  case round =>
    obtain ⟨k, xs, hk, rfl, hGr, HXS, HXL⟩ := hrel
    have hx1 : xs.length ≤ 1000 := by rw [HXL.out]; omega
    clear HST
    obtain ⟨ab, cb, rfl, _, hcb⟩ := own_shape hGr.row
    unfold maxLen at hcb
    by_cases hlt : k < n
    · obtain ⟨b, off, ha, hb, hnS, hc⟩ := HX.out.resolve_left (by omega)
      subst ha
      have y0 := (hGr.chg.cell (o := off + k) hb hnS).trans (hc k hlt)
      obtain ⟨hy0, hy1⟩ := HB.out k hlt
      have HTK := Lib.hid (HT.out k hlt)
      rw [← HXS.out] at HTK
      clear hc
      generalize ls.getD k 0 = y at *
      have hyb : -8000 ≤ y ∧ y ≤ 8000 := by omega
      have HVA := Lib.hid (fun W => var_any y W (by omega) (by omega))
      have hm : absI y = (y.natAbs : Int) := by unfold absI; split <;> omega
      rw [hm] at HVA
      have HIN := Lib.hid (hGr.call H hE (r := (g, 2 * (y.natAbs : Int))) fun S' hE' hG' _ => by
        have := H.inp hE' hG' ((y.natAbs : Int) - 1) ⟨by omega, by omega⟩
        rw [show inG g ((y.natAbs : Int) - 1) = (g, 2 * (y.natAbs : Int)) by unfold inG; rw [if_pos (by omega)]; congr 1; omega] at this
        exact this)
      have HAPP : Hid (∀ W w' u' x, GRow G w S g (.slice ab xs.length cb) xs W → w'.ownsRow w.heap.size 3 1 u' (xs.length + 1) ((xs ++ [x]).map (Value.int .i64)) → App w.heap.size W w' (.slice ab xs.length cb) u' → GRow G w S g u' (xs ++ [x]) w') := fun W w' u' x h1 h2 h3 => h1.app H.kind h2 h3
      by_cases hneg : y < 0
      · have HL : Hid (litI y = notI (2 * (y.natAbs : Int))) := by unfold Hid litI; rw [if_pos hneg]; congr 1; omega
        have HNT := Lib.hid (fun W => gnot_any (2 * (y.natAbs : Int)) W (by omega) (by omega))
        have hnb := notI_of (2 * (y.natAbs : Int)) (by omega)
        rw [HL.out] at HTK
        generalize notI (2 * (y.natAbs : Int)) = z at *
        generalize hq : (y.natAbs : Int) = q at *
        have hq1 : 1 ≤ q := by omega
        have hq2 : q ≤ 8000 := by omega
        clear hm hq hy0 hy1 HL hnb hGr
        go_wp2_with fail
        refine (HVA.out _).mono ?_
        rintro e w' ⟨rfl, rfl⟩
        go_wp2_with fail
        refine HIN.out.mono ?_
        rintro e w2 ⟨rfl, hG2⟩
        have hown := hG2.row
        have hsz := hG2.chg.size
        have HG2 := Lib.hid hG2
        clear hG2
        go_wp2_with fail
        refine (HNT.out _).mono ?_
        rintro e w' ⟨rfl, rfl⟩
        go_wp2_with (at_builtin; refine wpList_app1 rfl _ _ rfl w2 w.heap.size _ _ _ z hown hsz (by omega) rfl rfl ?_; intro u' w5 hown5 hap5)
        go_roundw
        case rel => exact ⟨k + 1, xs ++ [z], by omega, by go_num, HAPP.out _ _ _ _ HG2.out hown5 hap5, HTK.out.symm, by unfold Hid; simp [HXL.out]⟩
        case measure => simp [intOf]; omega
      · have HL : Hid (litI y = 2 * (y.natAbs : Int)) := by unfold Hid litI; rw [if_neg hneg]; omega
        rw [HL.out] at HTK
        generalize hq : (y.natAbs : Int) = q at *
        have hq1 : 1 ≤ q := by omega
        have hq2 : q ≤ 8000 := by omega
        clear hm hq hy0 hy1 HL hGr
        go_wp2_with fail
        refine (HVA.out _).mono ?_
        rintro e w' ⟨rfl, rfl⟩
        go_wp2_with fail
        refine HIN.out.mono ?_
        rintro e w2 ⟨rfl, hG2⟩
        have hown := hG2.row
        have hsz := hG2.chg.size
        have HG2 := Lib.hid hG2
        clear hG2
        go_wp2_with (at_builtin; refine wpList_app1 rfl _ _ rfl w2 w.heap.size _ _ _ (2 * q) hown hsz (by omega) rfl rfl ?_; intro u' w5 hown5 hap5)
        go_roundw
        case rel => exact ⟨k + 1, xs ++ [2 * q], by omega, by go_num, HAPP.out _ _ _ _ HG2.out hown5 hap5, HTK.out.symm, by unfold Hid; simp [HXL.out]⟩
        case measure => simp [intOf]; omega
    · have hkn : n = k := by omega
      have HR : Hid (xs = ls.map litI) := by
        have := HXS.out
        rw [← hkn, HTE.out] at this
        exact this
      have HGR := Lib.hid hGr
      clear hGr
      go_wp2_with fail
      go_ret
      rw [← HR.out]
      exact ⟨_, rfl, HGR.out⟩

set_option maxRecDepth 8000 in
set_option maxHeartbeats 2000000 in
theorem gcl0_any (H : GOp G E (.pointer (some ⟨p, 0, none⟩)) 35 64) {w : World} (hE : E w S) (hG : G w S g) (v : Value) (cs : List (List Int)) (hv : OffC w S v cs) (hcs : LitsIn g.n cs) (hnc : ∀ c ∈ cs, c.length ≤ 1000) (hnl : cs.length ≤ 1000) :
    Calls Tryd.prog 24 #[.pointer (some ⟨p, 0, none⟩), v] w fun e w' => e = .returned (.int .i64 (clausesG g cs).2) ∧ GIn G w S (clausesG g cs).1 w' := by
  have hlen := H.len hG
  have HST := Lib.hid (GRow.start hG)
  have HR : Hid (clausesG g cs = allG (clsG g cs).1 (clsG g cs).2) := rfl
  have HBD := Lib.hid (clsG_bd hlen cs)
  have HST2 := Lib.hid (fun k (hk : k < cs.length) => clsG_take g cs k hk)
  have HLB : Hid (∀ k, k < cs.length → ∀ l ∈ (cs.getD k []), l ≠ 0 ∧ l.natAbs ≤ (clsG g (cs.take k)).1.n) := fun k hk l hl => by
    rw [clsG_n]
    exact hcs _ (by simp [List.getD, hk]) l hl
  have HCB : Hid (∀ k, k < cs.length → (cs.getD k []).length ≤ 1000) := fun k hk => hnc _ (by simp [List.getD, hk])
  have HN8 : Hid (g.n ≤ 8000) := by unfold Hid; unfold Gr.len at hlen; omega
  have HNN : Hid (∀ k, (clsG g (cs.take k)).1.n = g.n) := fun k => clsG_n g _
  have HLN : Hid (∀ k, k ≤ cs.length → (clsG g (cs.take k)).2.length = k) := fun k hk => by rw [clsG_len, List.length_take]; omega
  have HTE : Hid (cs.take cs.length = cs) := List.take_length
  obtain ⟨a, c, rfl, h1, h2, h3⟩ := hv
  unfold maxLen at h2
  have HX := Lib.hid h3; clear h3
  generalize clausesG g cs = R at *
  clear hcs hnc hG hlen
  generalize hn : cs.length = n at *
  clear hn
  go_enter Tryd.func24, Tryd.ntmps24
  go_wp2_with fail
  go_loopw [10, 5, 7] (fun i u _ wr => ∃ (k : Nat) (s : Gr × List Int), k ≤ n ∧ i = .int .i64 k ∧ GRow G w S s.1 u s.2 wr ∧ Hid (s = clsG g (cs.take k)) ∧ Hid (s.2.length = k)) (fun i _ _ _ => n - (intOf i).toNat)
  case atStart => exact ⟨0, (g, []), Nat.zero_le _, rfl, HST.out, by rw [List.take_zero]; rfl, rfl⟩
  case round =>
    obtain ⟨k, s, hk, rfl, hGr, HS, HSL⟩ := hrel
    have hx1 : s.2.length ≤ 1000 := by rw [HSL.out]; omega
    clear HST
    obtain ⟨ab, cb, rfl, _, hcb⟩ := own_shape hGr.row
    unfold maxLen at hcb
    by_cases hlt : k < n
    · obtain ⟨b, off, ha, hb, hnS, hc⟩ := HX.out.resolve_left (by omega)
      subst ha
      obtain ⟨q, hq, ho⟩ := hc k hlt
      obtain ⟨aq, nq, cq, rfl⟩ : ∃ aq nq cq, q = .slice aq nq cq := by
        obtain ⟨aq, cq, e, _⟩ := ho
        exact ⟨_, _, _, e⟩
      have y0 := (hGr.chg.cell (o := off + k) hb hnS).trans hq
      have HLK := Lib.hid (HLB.out k hlt)
      have hck := HCB.out k hlt
      have hn8 : s.1.n ≤ 8000 := by rw [HS.out, HNN.out]; exact HN8.out
      have HNX := Lib.hid (HST2.out k hlt)
      rw [← HS.out] at HLK HNX
      have HNX2 : Hid (((anyG s.1 ((cs.getD k []).map litI)).1, s.2 ++ [(anyG s.1 ((cs.getD k []).map litI)).2]) = clsG g (cs.take (k + 1))) := HNX.out.symm
      have HIN := Lib.hid (hGr.more H hE (r := s.1) (ys := (cs.getD k []).map litI) fun S' hE' hG' hC hF => ginputs9_any H hE' hG' _ (cs.getD k []) (ho.later hC hF) HLK.out hck)
      have HLT : Hid (∀ l ∈ (cs.getD k []).map litI, 0 ≤ l ∧ l ≤ 19000) := fun l hl => by
        obtain ⟨x, hx, rfl⟩ := List.mem_map.1 hl
        have := litI_bd (HLK.out x hx).1 (HLK.out x hx).2
        omega
      have HAN : Hid (∀ W z, GRow2 G w S s.1 (.slice ab s.2.length cb) s.2 z ((cs.getD k []).map litI) W → Calls Tryd.prog 21 #[.pointer (some ⟨p, 0, none⟩), z] W fun e w' => e = .returned (.int .i64 (anyG s.1 ((cs.getD k []).map litI)).2) ∧ GRow G w S (anyG s.1 ((cs.getD k []).map litI)).1 (.slice ab s.2.length cb) s.2 w') := fun W z h =>
        h.callz H hE fun S' hE' hG' ho' => gany_any H hE' (GIn.refl hG') z _ ho' HLT.out (by rw [List.length_map]; exact hck)
      have HAPP : Hid (∀ r W w' u', GRow G w S r (.slice ab s.2.length cb) s.2 W → ∀ x, w'.ownsRow w.heap.size 3 1 u' (s.2.length + 1) ((s.2 ++ [x]).map (Value.int .i64)) → App w.heap.size W w' (.slice ab s.2.length cb) u' → GRow G w S r u' (s.2 ++ [x]) w') := fun r W w' u' h1 x h2 h3 => h1.app H.kind h2 h3
      clear hc hq ho hck hn8 HNX HLK HLT hGr
      generalize (cs.getD k []).map litI = ys at *
      generalize anyG s.1 ys = r at *
      go_wp2_with fail
      refine HIN.out.mono ?_
      rintro e w2 ⟨z, rfl, hG2⟩
      obtain ⟨az, cz, rfl, _, _⟩ := own_shape hG2.row
      have HC2 := Lib.hid (HAN.out _ _ hG2)
      clear hG2
      go_wp2_with fail
      refine HC2.out.mono ?_
      rintro e w3 ⟨rfl, hG3⟩
      have hown := hG3.row
      have hsz := hG3.chg.size
      have HG3 := Lib.hid hG3
      clear hG3
      go_wp2_with (at_builtin; refine wpList_app1 rfl _ _ rfl w3 w.heap.size _ _ _ r.2 hown hsz (by omega) rfl rfl ?_; intro u' w5 hown5 hap5)
      go_roundw
      case rel => exact ⟨k + 1, (r.1, s.2 ++ [r.2]), by omega, by go_num, HAPP.out _ _ _ _ HG3.out _ hown5 hap5, HNX2.out, by unfold Hid; simp [HSL.out]⟩
      case measure => simp [intOf]; omega
    · have hkn : n = k := by omega
      have HR2 : Hid (s = clsG g cs) := by
        have := HS.out
        rw [← hkn, HTE.out] at this
        exact this
      have HCALL := Lib.hid (hGr.callu H hE (r := R) fun S' hE' hG' ho' => by
        rw [HR.out, ← HR2.out]
        exact gall_any H hE' (GIn.refl hG') _ _ ho' fun l hl => by
          have := HBD.out.1 l (by rw [← HR2.out]; exact hl)
          exact this)
      clear hGr
      go_wp2_with fail
      refine HCALL.out.mono ?_
      rintro e w2 ⟨rfl, hG2⟩
      have HG2 := Lib.hid hG2
      clear hG2
      go_wp2_with fail
      go_ret
      exact ⟨rfl, HG2.out⟩
end
end Go.Proofs.YtbighmmjmklioaaDoor
