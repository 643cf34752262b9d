/- The contract of learn's study.meet: it takes a clause's literals into the study. Conditions: the study in memory as StA has it; a prop as PrS has it; small literals; at most some thousand of them. · A prop's Trail and Clause with where they lie: in memory of the call's own. Conditions: a prop as PrS has it; 64-bit ints. -/
import Derived.Test.YtjlmooimdogmjaaLg35
set_option linter.unusedVariables false
set_option linter.unusedSimpArgs false
set_option linter.unusedVariables false
set_option linter.unusedSimpArgs false
namespace Go.Proofs.Ytjlmooimdogmjaa
open Go.RowKit Go.Maps

theorem meetF_snoc (p : Pr) (top : Int) (s : Sd) (c : List Int) (l : Int) : meetF p top s (c ++ [l]) = meetS p top (meetF p top s c) l := by unfold meetF; rw [List.foldl_append]; rfl
theorem meetS_len (p : Pr) (top : Int) (s : Sd) (l : Int) : (meetS p top s l).seen.length ≤ s.seen.length + 1 ∧ (meetS p top s l).below.length ≤ s.below.length + 1 ∧ (meetS p top s l).many ≤ s.many + 1 := by
  unfold meetS
  split
  · exact ⟨by omega, by omega, by omega⟩
  · split
    · simp
    · split <;> simp
theorem meetF_len (p : Pr) (top : Int) : ∀ (c : List Int) (s : Sd), (meetF p top s c).seen.length ≤ s.seen.length + c.length ∧ (meetF p top s c).below.length ≤ s.below.length + c.length ∧ (meetF p top s c).many ≤ s.many + c.length
  | [], s => ⟨by simp [meetF], by simp [meetF], by simp [meetF]⟩
  | l :: c, s => by
    have h1 := meetS_len p top s l
    have h2 := meetF_len p top c (meetS p top s l)
    have e : meetF p top s (l :: c) = meetF p top (meetS p top s l) c := rfl
    rw [e, List.length_cons]
    omega

set_option maxRecDepth 8000 in
set_option maxHeartbeats 4000000 in
theorem meet_any {T : Nat → Prop} {w W : World} {g mb : Nat} {v : Value} {top : Int} {s : Sd} {bv sv : Value} {S : List Nat} {p : Pr} (hs : PrS w v S p) (hb : Below w.heap.size w W) (hA : StA w.heap.size T W g mb v top s.many s.below s.seen s.seen bv sv) (u : Value) (c : List Int) (hu : RowT W T u c) (hc : ∀ l ∈ c, -4000 ≤ l ∧ l ≤ 4000) (hn : s.seen.length + c.length ≤ 1000000) (hn2 : s.below.length + c.length ≤ 1000000) (hn3 : s.many + c.length ≤ 1000000) :
    Calls Try.prog 34 #[.pointer (some ⟨g, 0, none⟩), u] W fun e w' => e = .returned (.tuple #[]) ∧ (∃ bv' sv', StA w.heap.size T w' g mb v top (meetF p top s c).many (meetF p top s c).below (meetF p top s c).seen (meetF p top s c).seen bv' sv') ∧ Kp T W w' ∧ Below w.heap.size W w' := by
  have HP : Hid (∀ V, Below w.heap.size W V → PrS V v S p) := fun V hV => hs.below (hb.trans hV)
  have HF : Hid (∀ j, j < c.length → meetF p top s (c.take (j + 1)) = meetS p top (meetF p top s (c.take j)) (c.getD j 0)) := fun j hj => by rw [take_snoc c j hj, meetF_snoc]
  have HLN : Hid (∀ j, j ≤ c.length → (meetF p top s (c.take j)).seen.length ≤ 1000000 ∧ (meetF p top s (c.take j)).below.length ≤ 1000000 ∧ (meetF p top s (c.take j)).many ≤ 1000000) := fun j hj => by
    have h1 := meetF_len p top (c.take j) s
    rw [List.length_take, Nat.min_eq_left hj] at h1
    omega
  have HE : Hid (meetF p top s (c.take c.length) = meetF p top s c) := by unfold Hid; rw [List.take_length]
  have HCB : Hid (∀ l ∈ c, -4000 ≤ l ∧ l ≤ 4000) := hc
  have HA0 : Hid (StA w.heap.size T W g mb v top (meetF p top s (c.take 0)).many (meetF p top s (c.take 0)).below (meetF p top s (c.take 0)).seen (meetF p top s (c.take 0)).seen bv sv) := hA
  have HU := Lib.hid hu
  obtain ⟨q, rfl⟩ := hs.ptr
  obtain ⟨a, cc, rfl, hu1, hu2, hu3⟩ := hu
  unfold maxLen at hu2
  clear hs hb hA hc hn hn2 hn3 hu3
  generalize hL : c.length = L at *
  have HL := Lib.hid hL; clear hL
  go_enter Try.func34, Try.ntmps34
  go_wp2_with fail
  go_loopw [5, 6, 7, 8, 9, 12] (fun _ _ _ _ _ i V => ∃ (j : Nat) (bv' sv' : Value), j ≤ L ∧ i = .int .i64 (j : Int) ∧ StA w.heap.size T V g mb (.pointer (some ⟨q, 0, none⟩)) top (meetF p top s (c.take j)).many (meetF p top s (c.take j)).below (meetF p top s (c.take j)).seen (meetF p top s (c.take j)).seen bv' sv' ∧ Kp T W V ∧ Below w.heap.size W V) (fun _ _ _ _ _ i _ => L - (intOf i).toNat)
  case atStart => exact ⟨0, bv, sv, Nat.zero_le _, rfl, HA0.out, Kp.refl _ _, Below.refl _ _⟩
  case round =>
    obtain ⟨j, bv', sv', hj, rfl, hA, hK, hBW⟩ := hrel
    clear HA0
    have HK := Lib.hid hK
    have HBW := Lib.hid hBW
    clear hK hBW
    by_cases hlt : j < L
    · obtain ⟨a', c', e', _, _, hx3⟩ := HU.out.keep HK.out
      injection e' with e1 e2 e3
      subst e1; subst e3
      clear e2
      obtain ⟨b, off, ha, hbl, _, hcell⟩ := hx3.resolve_left (by rw [HL.out]; omega)
      subst ha
      have y0 := hcell j (by rw [HL.out]; exact hlt)
      have hlb := HCB.out (c.getD j 0) (getD_mem (by rw [HL.out]; exact hlt))
      have hf := HF.out j (by first | exact hlt | (rw [HL.out]; exact hlt))
      have hln := HLN.out j (by first | exact hj | (rw [HL.out]; exact hj))
      clear hcell hx3
      generalize c.getD j 0 = l at *
      generalize meetF p top s (c.take j) = st at *
      obtain ⟨m0, b0, z0⟩ := st
      simp only at hA hln
      have hab : 0 ≤ absI l ∧ absI l ≤ 4000 := by unfold absI; split <;> omega
      have hpl : (plc l : Int) = absI l := plc_absI l
      have HVA := Lib.hid (fun V => var_any l V (by omega) (by omega))
      have hkey := keyI (absI l) (by omega) (by omega)
      obtain ⟨hl1, hl2, hl3⟩ := hln
      have HLV : Hid (∀ V, Below w.heap.size wr V → Calls Try.prog 12 #[.pointer (some ⟨q, 0, none⟩), .int .i64 (absI l)] V fun e w' => e = .returned (.int .i64 (levP p (absI l))) ∧ V = w') := fun V hV => plev_any V (HP.out V (HBW.out.trans hV)) _ (by omega) (by omega)
      unfold meetS at hf
      rw [hpl] at hf
      simp only at hf
      have HFF := Lib.hid hf
      clear hf hpl
      generalize absI l = al at *
      have HA := Lib.hid hA
      clear hA
      by_cases hin : al ∈ z0
      · have hh : Maps.has (setI z0) (Lit.int .i64 al) = true := (setI_has _ _).trans (List.contains_iff_mem.2 hin)
        have HFE := Lib.hid (HFF.out.trans (if_pos hin))
        have hmp := HA.out.mp
        have c4 := HA.out.c4
        clear hin HFF
        go_wp2_with (first
          | (go_at_call 41; refine (HVA.out _).mono ?_; rintro e w' ⟨rfl, rfl⟩)
          | (at_lookup; refine wpList_lookup_own_unit _ rfl _ _ 58 rfl 3 86 lawI Try.underlying58 (zeroU _) mb z0.length (setI z0) rfl hmp _ _ rfl hkey ?_))
        have hal : Below wr.heap.size wr (wr.alloc (.cells #[] 86)) := (Below.refl _ _).alloc (Nat.le_refl _) _
        go_roundw
        case rel => exact ⟨j + 1, bv', sv', by omega, by go_num, by rw [HFE.out]; exact HA.out.keep hal, HK.out.trans (Kp.below hal fun i hi => (HA.out.av i hi).1), HBW.out.trans (hal.mono (Nat.le_trans HA.out.gB (Nat.le_of_lt HA.out.gl)))⟩
        case measure => go_light; simp [intOf]; omega
      · have hh : Maps.has (setI z0) (Lit.int .i64 al) = false := (setI_has _ _).trans (by rw [Bool.eq_false_iff]; exact fun h => hin (List.contains_iff_mem.1 h))
        have HFE := Lib.hid (HFF.out.trans (if_neg hin))
        clear hin HFF
        have hmp := HA.out.mp
        have c4 := HA.out.c4
        have hal : Below wr.heap.size wr (wr.alloc (.cells #[] 86)) := (Below.refl _ _).alloc (Nat.le_refl _) _
        have HA1 := Lib.hid (HA.out.keep hal)
        have hm1 := HA1.out.mp
        have c41 := HA1.out.c4
        have HB1 : Hid (Below w.heap.size wr (wr.alloc (.cells #[] 86))) := hal.mono (Nat.le_trans HA.out.gB (Nat.le_of_lt HA.out.gl))
        have HK1 : Hid (Kp T W (wr.alloc (.cells #[] 86))) := HK.out.trans (Kp.below hal fun i hi => (HA.out.av i hi).1)
        clear hal
        go_upto_region 7 with (first
          | (go_at_call 41; refine (HVA.out _).mono ?_; rintro e w' ⟨rfl, rfl⟩)
          | (at_lookup; refine wpList_lookup_own_unit _ rfl _ _ 58 rfl 3 86 lawI Try.underlying58 (zeroU _) mb z0.length (setI z0) rfl hmp _ _ rfl hkey ?_)
          | (at_mapUpdate; refine wpList_mapUpdate_own _ rfl _ _ _ 58 rfl 3 86 lawI Try.underlying58 (unitElem (H := Unit)) mb z0.length (setI z0) rfl hm1 (by unfold maxLen; omega) _ _ _ rfl rfl hkey _ [] unitElem_mk ?_; intro w1 ho2 hgrow1))
        obtain ⟨hA2, hk2, hb2⟩ := HA1.out.setMap hgrow1 ho2
        have HA2 := Lib.hid hA2
        have HK2 := Lib.hid (HK1.out.trans hk2)
        have HB2 := Lib.hid (HB1.out.trans hb2)
        have c5 := hA2.c5
        obtain ⟨sa, sc, rfl, hsl, hsm⟩ := own_shape hA2.rs
        have hsz := Nat.le_trans hA2.gB (Nat.le_of_lt hA2.gl)
        have HS3 : Hid (∀ sv2 w2, App w.heap.size w1 w2 (.slice sa z0.length sc) sv2 → w2.cell? ⟨g, 5, none⟩ = some (.slice sa z0.length sc) ∧ w2.frozen? ⟨g, 5, none⟩ = false ∧ g < w2.heap.size) := fun sv2 w2 ha => by
          have hc1 : Chg (rowB (.slice sa z0.length sc)) w1 w2 := Chg.app ha fun k hk => mem_rowB.2 hk
          have hgb := hc1.block g HA2.out.gl (fun hm => (HA2.out.ns g (mem_rowB.1 hm)).1 rfl)
          exact ⟨(cell_blk hgb 5).trans HA2.out.c5, (froz_blk hgb 5).trans (HA2.out.fr 5), Nat.lt_of_lt_of_le HA2.out.gl hc1.size⟩
        have HRS := Lib.hid hA2.rs
        clear hA2 hk2 hb2 hgrow1 ho2 hmp hm1 c4 c41 hh HA1 HK1 HB1 hkey
        go_upto_region 8 with (at_builtin; refine wpList_app1 rfl _ _ rfl w1 w.heap.size _ z0.length z0 al HRS.out hsz (by omega) rfl rfl ?_; intro sv2 w2 ho3 ha3; obtain ⟨c5', f5', g5'⟩ := HS3.out _ _ ha3; obtain ⟨sa2, sc2, rfl, hsl2, hsm2⟩ := own_shape ho3)
        obtain ⟨hA3, hk3, hb3⟩ := HA2.out.appS ha3 ho3
        have HA3 := Lib.hid hA3
        have HK3 := Lib.hid (HK2.out.trans hk3)
        have HB3 := Lib.hid (HB2.out.trans hb3)
        clear hA3 hk3 hb3 ho3 ha3 c5 c5' f5' g5' HA2 HK2 HB2 HS3 HRS
        generalize w2.setCell ⟨g, 5, none⟩ (.slice sa2 (z0.length + 1) sc2) = w3 at *
        have c03 := HA3.out.c0
        have c13 := HA3.out.c1
        have HLL := Lib.hid (HLV.out w3 HB3.out)
        have HB3' : Hid (Below w.heap.size W w3) := HBW.out.trans HB3.out
        obtain ⟨lv, hlv⟩ : ∃ lv, levP p al = lv := ⟨_, rfl⟩
        rw [hlv] at HLL HFE
        clear hlv HLV
        by_cases ht : lv = top
        · have b1 : (lv == top) = true := beq_iff_eq.2 ht
          have HFT := Lib.hid (HFE.out.trans (if_pos ht))
          have c23 := HA3.out.c2
          have f23 := HA3.out.fr 2
          have gl3 := HA3.out.gl
          obtain ⟨hA4, hk4, hb4⟩ := HA3.out.setMany (m0 + 1)
          rw [show ((m0 + 1 : Nat) : Int) = (m0 : Int) + 1 by omega] at hA4 hk4 hb4
          have HA4 := Lib.hid hA4
          have HK4 := Lib.hid (HK3.out.trans hk4)
          have HB4 := Lib.hid (HB3'.out.trans hb4)
          clear hA4 hk4 hb4 ht HFE
          go_wp2_with fail
          refine HLL.out.mono ?_
          rintro e w' ⟨rfl, rfl⟩
          go_wp2_with fail
          go_roundw
          case rel => exact ⟨j + 1, _, _, by omega, by go_num, by rw [HFT.out]; exact HA4.out, HK4.out, HB4.out⟩
          case measure => go_light; simp [intOf]; omega
        · have b1 : (lv == top) = false := beq_eq_false_iff_ne.2 ht
          have HFN := Lib.hid (HFE.out.trans (if_neg ht))
          by_cases h0 : 0 < lv
          · have d1 : decide (0 < lv) = true := decide_eq_true h0
            have HFT := Lib.hid (HFN.out.trans (if_pos h0))
            have c33 := HA3.out.c3
            obtain ⟨ba, bc, rfl, hbl1, hbl2⟩ := own_shape HA3.out.rb
            have hsz3 := Nat.le_trans HA3.out.gB (Nat.le_of_lt HA3.out.gl)
            have HS4 : Hid (∀ bv2 w4, App w.heap.size w3 w4 (.slice ba b0.length bc) bv2 → w4.cell? ⟨g, 3, none⟩ = some (.slice ba b0.length bc) ∧ w4.frozen? ⟨g, 3, none⟩ = false ∧ g < w4.heap.size) := fun bv2 w4 ha => by
              have hc1 : Chg (rowB (.slice ba b0.length bc)) w3 w4 := Chg.app ha fun k hk => mem_rowB.2 hk
              have hgb := hc1.block g HA3.out.gl (fun hm => (HA3.out.nb g (mem_rowB.1 hm)).1 rfl)
              exact ⟨(cell_blk hgb 3).trans HA3.out.c3, (froz_blk hgb 3).trans (HA3.out.fr 3), Nat.lt_of_lt_of_le HA3.out.gl hc1.size⟩
            have HRB := Lib.hid HA3.out.rb
            clear ht h0 HFE HFN
            go_wp2_with fail
            refine HLL.out.mono ?_
            rintro e w' ⟨rfl, rfl⟩
            go_wp2_with (at_builtin; refine wpList_app1 rfl _ _ rfl w3 w.heap.size _ b0.length b0 l HRB.out hsz3 (by omega) rfl rfl ?_; intro bv2 w4 ho5 ha5; obtain ⟨c3', f3', g3'⟩ := HS4.out _ _ ha5; obtain ⟨ba2, bc2, rfl, hbl3, hbl4⟩ := own_shape ho5)
            obtain ⟨hA5, hk5, hb5⟩ := HA3.out.appB ha5 ho5
            have HA5 := Lib.hid hA5
            have HK5 := Lib.hid (HK3.out.trans hk5)
            have HB5 := Lib.hid (HB3'.out.trans hb5)
            clear hA5 hk5 hb5 ho5 ha5
            go_roundw
            case rel => exact ⟨j + 1, _, _, by omega, by go_num, by rw [HFT.out]; exact HA5.out, HK5.out, HB5.out⟩
            case measure => go_light; simp [intOf]; omega
          · have d1 : decide (0 < lv) = false := decide_eq_false h0
            have HFT := Lib.hid (HFN.out.trans (if_neg h0))
            clear ht h0 HFE HFN
            go_wp2_with fail
            refine HLL.out.mono ?_
            rintro e w' ⟨rfl, rfl⟩
            go_wp2_with fail
            go_roundw
            case rel => exact ⟨j + 1, _, _, by omega, by go_num, by rw [HFT.out]; exact HA3.out, HK3.out, HB3'.out⟩
            case measure => go_light; simp [intOf]; omega
    · have e1 : decide ((j : Int) < (L : Int)) = false := decide_eq_false (by omega)
      have e2 : decide (j < L) = false := decide_eq_false hlt
      have hjl : j = L := by omega
      have HFE : Hid (meetF p top s (c.take j) = meetF p top s c) := by rw [hjl]; exact HE
      have HA := Lib.hid hA
      clear hlt hjl hA
      go_wp2_with fail
      refine bodyPost_end (results_none rfl _ _ _) rfl ?_
      exact ⟨rfl, ⟨bv', sv', by rw [← HFE.out]; exact HA.out⟩, HK.out, HBW.out⟩
end Go.Proofs.Ytjlmooimdogmjaa

set_option linter.unusedVariables false
set_option linter.unusedSimpArgs false
namespace Go.Proofs.Ytjlmooimdogmjaa
open Go.RowKit Go.Maps
section
variable {w : World} {ρ : Nat → Option Rl} {L : Lay} {m : Mc}
set_option maxRecDepth 8000 in
set_option maxHeartbeats 2000000 in
theorem mclsO_any (h : MA w ρ L m) (hw : McW m) (i : Int) (h1 : -9223372036854775808 ≤ i) (h2 : i ≤ 9223372036854775807) :
    Calls Try.prog 31 #[ptrP L, .int .i64 i] w fun e w' => (∃ u n, e = .returned u ∧ w'.ownsRow w.heap.size 3 1 u n ((if i < 0 then [] else (m.cl i.toNat).getD []).map (Value.int .i64))) ∧ Below w.heap.size w w' := by
  have c5 := h.pc.c5
  unfold ptrP
  rcases h.look hw.mps i h1 h2 with ⟨c, h0, hc, hrun⟩ | ⟨hc, hrun⟩
  · rw [show ptrC L i.toNat = .pointer (some ⟨L.cb i.toNat, 0, none⟩) from rfl] at hrun
    have q1 := (h.cells hc).2
    have ho := h.lit hc
    obtain ⟨a, cc, e, _⟩ := own_shape ho
    have HE : Hid ((if i < 0 then [] else (m.cl i.toNat).getD []) = c) := by unfold Hid; rw [if_neg (by omega), hc]; rfl
    have HC := Lib.hid (cloneI_any (L.cv i.toNat) c w (own_row ho) (hw.cl_lit hc).2)
    rw [e] at q1 HC
    rw [HE.out]
    clear h ho e hc
    generalize L.cb i.toNat = b at *
    go_enter Try.func31, Try.ntmps31
    go_wp2_with fail
    refine HC.out.mono ?_
    rintro e w1 ⟨⟨u, rfl, ho⟩, hb⟩
    have HO := Lib.hid ho
    have HB := Lib.hid hb
    obtain ⟨a1, c1, rfl, _⟩ := own_shape ho
    clear ho hb
    go_wp2_with fail
    go_ret
    exact ⟨⟨_, _, rfl, HO.out⟩, HB.out⟩
  · have HE : Hid ((if i < 0 then [] else (m.cl i.toNat).getD []) = ([] : List Int)) := by
      unfold Hid
      rcases hc with hc | hc
      · rw [if_pos hc]
      · rw [hc]; simp
    rw [HE.out]
    clear h hc
    go_enter Try.func31, Try.ntmps31
    go_wp2_with fail
    go_ret
    exact ⟨⟨_, 0, rfl, World.ownsRow_nil _ _ _ _⟩, Below.refl _ _⟩

end
theorem below_new {w w' : World} {i : Nat} (h1 : w.heap.size ≤ i) (h2 : i < w'.heap.size) : NewB w w' i := ⟨h1, h2⟩

theorem ptrlT_any {v : Value} {S : List Nat} {p : Pr} (w : World) (hs : PrS w v S p) : Calls Try.prog 61 #[v] w fun e w' => ∃ u, e = .returned u ∧ RowT w' (NewB w w') u p.tr ∧ Below w.heap.size w w' := by
  obtain ⟨ρ, L, m, rfl, hM, hI, hnx, hS, hl, hR⟩ := hs
  rw [hR.tr]
  refine (mtrl_any hM (Nat.le_trans hI.w.tr_len hI.w.n)).mono ?_
  rintro e w' ⟨⟨u, rfl, ho⟩, hb⟩
  exact ⟨u, rfl, own_rowT ho fun i h1 h2 => ⟨h1, h2⟩, hb⟩

theorem pclsT_any {v : Value} {S : List Nat} {p : Pr} (w : World) (hs : PrS w v S p) (i : Int) (h1 : -9223372036854775808 ≤ i) (h2 : i ≤ 9223372036854775807) : Calls Try.prog 31 #[v, .int .i64 i] w fun e w' => ∃ u c, e = .returned u ∧ RowT w' (NewB w w') u c ∧ c.Perm (if i < 0 then [] else (p.cl.getD i.toNat none).getD []) ∧ Below w.heap.size w w' := by
  obtain ⟨ρ, L, m, rfl, hM, hI, hnx, hS, hl, hR⟩ := hs
  refine (mclsO_any hM hI.w i h1 h2).mono ?_
  rintro e w' ⟨⟨u, n, rfl, ho⟩, hb⟩
  exact ⟨u, _, rfl, own_rowT ho fun i h1 h2 => ⟨h1, h2⟩, hR.cond i, hb⟩

end Go.Proofs.Ytjlmooimdogmjaa
