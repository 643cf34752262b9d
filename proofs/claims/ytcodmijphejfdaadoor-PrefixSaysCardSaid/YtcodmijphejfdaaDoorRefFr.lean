/- The contract of the document's own skolemref1.Free: the free variables, rising, in memory of the call's own. Conditions: the formula reads as blocks and clauses, not too many; its literals are not the least int. -/
import Derived.Test.YtcodmijphejfdaaDoorFrP
import Derived.Test.YtcodmijphejfdaaDoorRef
import Derived.Test.YtcodmijphejfdaaDoorRead
import Derived.Test.YtcodmijphejfdaaDoorIntsR
import Derived.Deep.RegionLaw
import Derived.Deep.DeepCutAuto
import Derived.Deep.CutBlock
import Derived.Deep.LoopGhost
namespace Go.Proofs.YtcodmijphejfdaaDoor
open Go.RowKit

theorem fr_add (g o j : Nat) : (⟨g, o, none⟩ : Addr).add j = ⟨g, o + j, none⟩ := by
  by_cases e : j = 0
  · subst e; rfl
  · simp [Addr.add, e]
theorem fr_drop {w : World} {B : Nat} {e : TypeId} {g n cap : Nat} {l : List Int} (h : w.ownsRow B e 1 (.slice (some ⟨g, 0, none⟩) n cap) n (l.map (Value.int .i64))) (k : Nat) :
    ∀ j, j < n - k → w.cell? ((⟨g, k, none⟩ : Addr).add j) = some (.int .i64 ((l.drop k).getD j 0)) := fun j hj => by
  have hl := own_len h
  have hkj : k + j < l.length := by omega
  rw [fr_add, h.cellAt _ (by omega)]
  simp [List.getD, hkj]
theorem fr_cell {w : World} {B : Nat} {e : TypeId} {g n cap : Nat} {l : List Int} (h : w.ownsRow B e 1 (.slice (some ⟨g, 0, none⟩) n cap) n (l.map (Value.int .i64))) (q : Nat) (hq : q < n) : w.cell? ⟨g, q, none⟩ = some (.int .i64 (l.getD q 0)) := by
  have hl := own_len h
  have hql : q < l.length := by omega
  rw [h.cellAt q (by omega)]
  simp [List.getD, hql]
theorem fr_flat (xss : List (List Int)) (k : Nat) (h : k < xss.length) : (xss.take (k + 1)).flatten = (xss.take k).flatten ++ xss.getD k [] := by
  rw [List.take_succ_eq_append_getElem h, List.flatten_append]; simp [List.getD, h]
theorem fr_len (xss : List (List Int)) (k : Nat) : (xss.take k).flatten.length ≤ xss.flatten.length := by
  have : xss.flatten = (xss.take k).flatten ++ (xss.drop k).flatten := by rw [← List.flatten_append, List.take_append_drop]
  rw [this, List.length_append]; omega
theorem fr_vars (bs : List Blk) (k : Nat) : (varsB (bs.take k)).length ≤ (varsB bs).length := by
  have : varsB bs = varsB (bs.take k) ++ varsB (bs.drop k) := by
    unfold varsB
    rw [← List.flatMap_append, List.take_append_drop]
  rw [this, List.length_append]; omega
theorem fr_mem (l : List Int) (j : Nat) (h : j < l.length) : l.getD j 0 ∈ l := by simp [List.getD, h]

set_option maxHeartbeats 8000000 in
set_option maxRecDepth 100000 in
theorem refFree_any (vars : Int) (q : Option Addr) (d : Nat) (bs : List Blk) (a : Option Addr) (c : Nat) (xss : List (List Int)) (w : World) (hq : BRowsAt w q d bs) (hr : RowsAt w a c xss)
    (hint : ∀ xs ∈ xss, ∀ l ∈ xs, -9223372036854775807 ≤ l ∧ l ≤ 9223372036854775807) (hn1 : (varsB bs).length ≤ 400000000) (hn2 : xss.flatten.length ≤ 400000000) :
    Calls Tryd.prog 13 #[.agg #[.slice q bs.length d, .int .i64 vars, .slice a xss.length c]] w fun e w' => (∃ v, e = .returned v ∧ Row w' v (freeL bs xss)) ∧ Below w.heap.size w w' := by
  obtain ⟨hq1, hq2, hq3⟩ := hq
  obtain ⟨hr1, hr2, hr3⟩ := hr
  unfold maxLen at hq2 hr2
  have HQ3 := Lib.hid hq3; clear hq3
  have HR3 := Lib.hid hr3; clear hr3
  have HI : Hid (∀ k j, k < xss.length → j < (xss.getD k []).length → -9223372036854775807 ≤ (xss.getD k []).getD j 0 ∧ (xss.getD k []).getD j 0 ≤ 9223372036854775807) := fun k j hk hj =>
    hint (xss.getD k []) (by simp [List.getD, hk]) _ (fr_mem _ j hj)
  have HV1 : Hid (∀ k, k < bs.length → (varsB (bs.take k)).length + (bs.getD k blk0).2.length ≤ 400000000) := fun k hk => by
    have h1 := fr_vars bs (k + 1)
    rw [varsB_take bs k hk, List.length_append] at h1
    omega
  have HV2 := Lib.hid (fun k (hk : k < bs.length) => varsB_take bs k hk)
  have HF2 := Lib.hid (fun k (hk : k < xss.length) => fr_flat xss k hk)
  have HF1 : Hid (∀ k j, k < xss.length → ((xss.take k).flatten ++ (xss.getD k []).take j).length ≤ 400000000) := fun k j hk => by
    have h1 := fr_len xss (k + 1)
    rw [fr_flat xss k hk, List.length_append] at h1
    rw [List.length_append, List.length_take]
    omega
  have HE1 : Hid (varsB (bs.take bs.length) = varsB bs) := by rw [List.take_length]; rfl
  have HE2 : Hid ((xss.take xss.length).flatten = xss.flatten) := by rw [List.take_length]; rfl
  have HFR : Hid (freeL bs xss = (xss.flatten.map absI).foldl (freeStep (varsB bs)) []) := rfl
  obtain ⟨W0, HW0⟩ : ∃ W0 : World, Hid (W0 = w.alloc (.cells #[.slice q bs.length d, .int .i64 vars, .slice a xss.length c] 27)) := ⟨_, rfl⟩
  have HBOX : Hid (∀ W, Below (w.heap.size + 1) W0 W → Below w.heap.size w W ∧ W.cell? ⟨w.heap.size, 0, none⟩ = some (.slice q bs.length d) ∧ W.cell? ⟨w.heap.size, 2, none⟩ = some (.slice a xss.length c)) := fun W hW => by
    rw [HW0.out] at hW
    have h3 := cells3 w W _ _ _ _ (by simpa using hW)
    exact ⟨((Below.refl _ w).alloc (Nat.le_refl _) _).trans (hW.mono (by omega)), h3.1, h3.2.2⟩
  have HSZ0 : Hid (W0.heap.size = w.heap.size + 1) := by rw [HW0.out]; unfold Hid; simp
  have HVB := Lib.hid hn1
  generalize hBB : varsB bs = BB at *
  clear hint hn2 hn1
  generalize hN : bs.length = n at *
  have HN := Lib.hid hN; clear hN
  generalize hM : xss.length = m at *
  have HM := Lib.hid hM; clear hM
  go_enter Tryd.func13, Tryd.ntmps13
  go_wp2_with fail
  go_loopw [3, 4] (fun s i wr => ∃ (k : Nat) (sn : List Int), k ≤ n ∧ i = .int .i64 k ∧ Hid (wr.ownsRow (w.heap.size + 1) 3 1 s sn.length (sn.map (Value.int .i64))) ∧ Hid (Below (w.heap.size + 1) W0 wr) ∧ Hid (sn = varsB (bs.take k))) (fun _ i _ => n - (intOf i).toNat)
  case atStart => exact ⟨0, [], Nat.zero_le _, rfl, World.ownsRow_nil _ _ _ _, by rw [HW0.out]; exact Below.refl _ _, rfl⟩
  case round =>
    obtain ⟨k, sn, hk, rfl, HOWN, HBR, HSN⟩ := hrel
    obtain ⟨hbw, hx0, hx2⟩ := HBOX.out _ HBR.out
    have hsz : w.heap.size + 1 ≤ wr.heap.size := by have := HBR.out.size; rw [HSZ0.out] at this; exact this
    by_cases hlt : k < n
    · obtain ⟨b, off, ha, hbl, hc⟩ := HQ3.out.resolve_left (by omega)
      subst ha
      obtain ⟨f0, v, f1, hvr⟩ := hc k hlt
      clear hc hx2
      have f1' := (hbw.cell (p := ⟨b, off + k * 2 + 1, none⟩) hbl).trans f1
      have hvk := hvr.keep hbw
      clear f0 f1 hvr
      have hbd := HV1.out k hlt
      have HNX := Lib.hid (HV2.out k hlt)
      rw [← HSN.out] at hbd HNX
      generalize (bs.getD k blk0).2 = ys at *
      obtain ⟨av, cv, rfl, hv5, hv6, hrv⟩ := hvk
      have HRA := Lib.hid (row_cells (show RowAt wr av cv ys from ⟨hv5, hv6, hrv⟩))
      have HYL := Lib.hid (show (ys.map (Value.int .i64)).length = ys.length * 1 by simp)
      have HY1 := Lib.hid (ints_one ys)
      have HSS := Lib.hid (show (sn ++ ys).length = sn.length + ys.length ∧ (sn ++ ys).map (Value.int .i64) = sn.map (Value.int .i64) ++ ys.map (Value.int .i64) from ⟨by simp, by simp⟩)
      clear hrv hv5
      generalize hss : sn ++ ys = ss at *
      clear hss
      generalize sn.map (Value.int .i64) = fx at *
      generalize ys.map (Value.int .i64) = fy at *
      generalize sn.length = ns at *
      generalize ys.length = ny at *
      obtain ⟨a5, c5, rfl⟩ := own_shape3 HOWN.out
      unfold maxLen at hv6
      go_wp2_with (at_builtin; refine wpList_appC 30 3 _ 1 8 Tryd.underlying30 infoInt rfl (by decide) (by decide) rfl _ _ rfl _ (w.heap.size + 1) (.slice a5 ns c5) ns fx av ny cv fy HOWN.out hsz (by omega) HYL.out HRA.out HY1.out rfl rfl ?_; intro s' w2 hown2 hap2)
      go_roundw
      case rel => exact ⟨k + 1, ss, by omega, by go_num, by rw [HSS.out.1, HSS.out.2]; exact hown2, HBR.out.trans hap2.below, HNX.out.symm⟩
      case measure => simp [intOf]; omega
    · have hkn : k = n := by omega
      subst hkn
      have HST : Hid (Fr2 W0 (w.heap.size + 1) wr u3 sn (.slice none 0 0) []) := Fr2.start HBR.out hsz HOWN.out
      have HRT : Hid (FrR BB sn [] []) := by rw [HSN.out, HE1.out]; exact FrR.start _
      clear hbw HOWN HBR HSN hlt hk hsz
      rename World => wq
      go_wp2_with fail
      go_loopw [3, 5, 6, 7, 8, 9, 10] (fun s o i _ _ _ _ wr => ∃ (k : Nat) (sn ou : List Int), k ≤ m ∧ i = .int .i64 k ∧ Hid (Fr2 W0 (w.heap.size + 1) wr s sn o ou) ∧ Hid (FrR BB sn ou (xss.take k).flatten)) (fun _ _ i _ _ _ _ _ => m - (intOf i).toNat)
      case atStart => exact ⟨0, sn, [], Nat.zero_le _, rfl, HST.out, HRT.out⟩
      case round =>
        obtain ⟨k, sn, ou, hk, rfl, HF, HR⟩ := hrel
        clear hx0 hx2 HST HRT
        obtain ⟨hbw, _, hx2⟩ := HBOX.out _ HF.out.below
        by_cases hlt : k < m
        · obtain ⟨b, off, ha, hbl, hc⟩ := HR3.out.resolve_left (by omega)
          subst ha
          obtain ⟨v, f1, hvr⟩ := hc k hlt
          clear hc
          have f1' := (hbw.cell (p := ⟨b, off + k, none⟩) hbl).trans f1
          have HCK := Lib.hid (fun W (h : Below (w.heap.size + 1) W0 W) => ((HBOX.out W h).1.cell (p := ⟨b, off + k, none⟩) hbl).trans f1)
          clear f1
          have HIK := Lib.hid (fun j => HI.out k j hlt)
          have HF1K := Lib.hid (fun j => HF1.out k j hlt)
          have HF2K := Lib.hid (HF2.out k hlt)
          generalize xss.getD k [] = ys at *
          obtain ⟨av, cv, rfl, hv5, hv6, hrv⟩ := hvr
          unfold maxLen at hv6
          have HRV := Lib.hid hrv; clear hrv
          generalize hml : ys.length = ml at *
          have HML := Lib.hid hml; clear hml
          go_wp2_with fail
          rename World => wq2
          go_loopw [3, 5, 7, 8, 9, 10] (fun s o i _ _ _ wr => ∃ (j : Nat) (sn ou : List Int), j ≤ ml ∧ i = .int .i64 j ∧ Hid (Fr2 W0 (w.heap.size + 1) wr s sn o ou) ∧ Hid (FrR BB sn ou ((xss.take k).flatten ++ ys.take j))) (fun _ _ i _ _ _ _ => ml - (intOf i).toNat)
          case atStart => exact ⟨0, sn, ou, Nat.zero_le _, rfl, HF.out, by rw [List.take_zero, List.append_nil]; exact HR.out⟩
          case round =>
            obtain ⟨j, sn, ou, hj, rfl, HF, HR⟩ := hrel
            clear hx2 f1' hbw
            obtain ⟨hbw, _, hx2⟩ := HBOX.out _ HF.out.below
            have f1' := HCK.out _ HF.out.below
            by_cases hjl : j < ml
            · obtain ⟨b2, off2, ha2, hbl2, hc2⟩ := HRV.out.resolve_left (by have := HML.out; omega)
              subst ha2
              have hjy : j < ys.length := by rw [HML.out]; exact hjl
              have f2 := (hbw.cell (p := ⟨b2, off2 + j, none⟩) hbl2).trans (hc2 j (by first | exact hjl | exact hjy))
              clear hc2
              obtain ⟨hv1, hv2⟩ := HIK.out j (by first | exact hjl | exact hjy)
              have HTK := Lib.hid (show (xss.take k).flatten ++ ys.take (j + 1) = (xss.take k).flatten ++ ys.take j ++ [ys.getD j 0] by rw [take_snoc ys j hjy, List.append_assoc])
              clear hjy
              generalize ys.getD j 0 = x at *
              have HAB := Lib.hid (fun W => abs_any x W hv1 hv2)
              have hon : ou.length ≤ 400000000 := Nat.le_trans HR.out.few (HF1K.out j)
              have hsn : sn.length ≤ 800000000 := by
                have := HR.out.len
                have := HVB.out
                omega
              have HH := Lib.hid (has_any u3 sn (absI x) wr (own_row HF.out.os))
              by_cases hm : absI x ∈ sn
              · have HSK : Hid (FrR BB sn ou ((xss.take k).flatten ++ ys.take (j + 1))) := by rw [HTK.out]; exact HR.out.skip hm
                rw [show decide (absI x ∈ sn) = true by simp [hm]] at HH
                clear hm HR HTK hv1 hv2 hon hsn
                go_wp2_with (first
                  | (go_at_call 36; refine (HAB.out _).mono ?_; rintro e w' ⟨rfl, rfl⟩)
                  | (go_at_call 37; refine HH.out.mono ?_; rintro e w' ⟨rfl, rfl⟩))
                go_roundw
                case rel => exact ⟨j + 1, sn, ou, by omega, by go_num, HF.out, HSK.out⟩
                case measure => simp [intOf]; omega
              · have HNX : Hid (FrR BB (sn ++ [absI x]) (insS ou (absI x)) ((xss.take k).flatten ++ ys.take (j + 1))) := by rw [HTK.out]; exact HR.out.ins hm
                rw [show decide (absI x ∈ sn) = false by simp [hm]] at HH
                clear hm HR HTK hv1 hv2
                generalize absI x = y at *
                obtain ⟨ao, co, rfl⟩ := own_shape3 HF.out.oo
                generalize hL : ou.length = L at *
                have HL := Lib.hid hL; clear hL
                go_upto_block 6 with (first
                  | (go_at_call 36; refine (HAB.out _).mono ?_; rintro e w' ⟨rfl, rfl⟩)
                  | (go_at_call 37; refine HH.out.mono ?_; rintro e w' ⟨rfl, rfl⟩)
                  | (at_builtin; refine wpList_app1 rfl _ _ rfl _ (w.heap.size + 1) u3 sn.length sn y HF.out.os HF.out.size (by omega) rfl rfl ?_; intro s2 w2 hown2 hap2; have HF3 := Lib.hid (HF.out.seen hown2 hap2); clear hown2 hap2))
                have hoo := HF3.out.oo
                rw [HL.out] at hoo
                have HOO := Lib.hid hoo; clear hoo
                clear f2 f1' hx2 hbw HH HAB
                go_cut [9] (fun i w3 => ∃ q : Nat, q ≤ L ∧ i = .int .i64 q ∧ w3 = w2 ∧ Hid ((∀ j, j < q → ou.getD j 0 < y) ∧ (q < ou.length → ¬ ou.getD q 0 < y)))
                case first =>
                  go_wp2_with fail
                  go_loopg [9] L (fun gh i w3 => ∃ q : Nat, q ≤ L ∧ gh = L - q ∧ i = .int .i64 q ∧ w3 = w2 ∧ Hid (∀ j, j < q → ou.getD j 0 < y))
                  case atStart => exact ⟨0, Nat.zero_le _, rfl, rfl, rfl, fun j hj => absurd hj (Nat.not_lt_zero _)⟩
                  case round =>
                    obtain ⟨q, hq, rfl, rfl, hw, HQ⟩ := hrel
                    subst hw
                    by_cases hql : q < L
                    · obtain ⟨g, cap, e', hg1, hg2, hc1, hc2⟩ := own_some HOO.out (by omega)
                      injection e' with e1 _ e3
                      subst e1; subst e3
                      have g3 := fr_cell HOO.out q hql
                      generalize hz : ou.getD q 0 = z at *
                      have HZ := Lib.hid hz; clear hz
                      by_cases hzy : z < y
                      · have HZY := Lib.hid hzy
                        have hd : decide (z < y) = true := decide_eq_true hzy
                        clear hzy
                        go_wp2_with fail
                        go_roundg (L - (q + 1))
                        case measure => omega
                        case rel =>
                          refine ⟨q + 1, by omega, rfl, by go_num, rfl, fun i hi => ?_⟩
                          by_cases e : i = q
                          · rw [e, HZ.out]; exact HZY.out
                          · exact HQ.out i (by omega)
                      · have HZY := Lib.hid hzy
                        have hd : decide (z < y) = false := decide_eq_false hzy
                        clear hzy
                        go_wp2_with fail
                        go_meet
                        exact ⟨q, hq, rfl, rfl, HQ.out, fun _ => by rw [HZ.out]; exact HZY.out⟩
                    · have HQL : Hid (¬ q < ou.length) := by rw [HL.out]; exact hql
                      go_wp2_with fail
                      go_meet
                      exact ⟨q, hq, rfl, rfl, HQ.out, fun h => absurd h HQL.out⟩
                case rest =>
                  obtain ⟨q, hq, rfl, hw, HQ⟩ := hcut
                  obtain ⟨wt, rfl⟩ : ∃ wt : World, wt = wc := ⟨_, rfl⟩
                  subst hw
                  have HIE := Lib.hid (ins_at y ou q (by rw [HL.out]; exact hq) HQ.out.1 HQ.out.2)
                  clear HQ
                  have HFIN : Hid (∀ W' o' n9, n9 = ou.length + 1 → W'.ownsRow wt.heap.size 3 1 o' n9 ((ou.take q ++ [y] ++ ou.drop q).map (Value.int .i64)) → Below wt.heap.size wt W' → Fr2 W0 (w.heap.size + 1) W' s2 (sn ++ [y]) o' (insS ou y)) := fun W' o' n9 hn ho hb => HF3.out.out hn ho hb HIE.out
                  rcases Nat.eq_zero_or_pos L with h0 | h0
                  · have hl0 : ou = [] := List.eq_nil_of_length_eq_zero (by rw [HL.out]; exact h0)
                    have hd := HF3.out.nil hl0
                    injection hd with e1 _ e3
                    obtain rfl : q = 0 := by omega
                    subst e1; subst e3; subst h0; subst hl0
                    have HINT0 := Lib.hid (fun W => ints_any (.slice none 0 0) [] W (Row.nil W) (by simp))
                    go_wp2_with (first
                      | (go_at_call 38; refine (HINT0.out _).mono ?_; rintro e wI ⟨vI, rfl, hoI, hbI⟩; have hszI := hbI.size)
                      | (at_builtin; refine wpList_app1 rfl _ _ rfl wI wt.heap.size vI 0 ([] : List Int) y hoI hszI (by omega) rfl rfl ?_; intro v8 w8 hown8 hap8; have hb8 := hbI.trans hap8.below; have hsz8 := hb8.size; obtain ⟨a8, c8, rfl⟩ := own_shape3 hown8)
                      | (at_builtin; refine wpList_app rfl _ _ rfl w8 wt.heap.size _ _ _ none 0 0 [] hown8 hsz8 (by simp) rfl (.inl rfl) (fun _ => rfl) rfl rfl ?_; intro v9 w9 hown9 hb9))
                    go_roundw
                    case rel => exact ⟨j + 1, _, _, by omega, by go_num, HFIN.out _ _ _ rfl (by simpa using hown9) (hb8.trans hb9), HNX.out⟩
                    case measure => simp [intOf]; omega
                  · obtain ⟨g, cap, e', hg1, hg2, hc1, hc2⟩ := own_some HOO.out h0
                    injection e' with e1 _ e3
                    subst e1; subst e3
                    have HINT := Lib.hid (show ∀ W, Below wt.heap.size wt W → Calls Tryd.prog 38 #[.slice (some ⟨g, 0, none⟩) q co] W fun e w' => ∃ v', e = .returned v' ∧ w'.ownsRow W.heap.size 3 1 v' q ((ou.take q).map (Value.int .i64)) ∧ Below W.heap.size W w' from fun W hW => by
                      have h := ints_any _ (ou.take q) W ((own_cut HOO.out q hq).keep hW) (by simp; omega)
                      rwa [show (ou.take q).length = q by simp; rw [HL.out]; omega] at h)
                    have HDC := Lib.hid (fun W (hW : Below wt.heap.size wt W) => fr_drop (own_keep HOO.out hW) q)
                    have HLD := Lib.hid (show (ou.drop q).length = L - q by simp [HL.out])
                    have HLQ : Hid (q + 1 + (L - q) = ou.length + 1) := by rw [HL.out]; unfold Hid; omega
                    have hi1 : (0 : Int) ≤ (q : Int) := by omega
                    have hi2 : (q : Int) ≤ (co : Int) := by omega
                    have hi3 : (q : Int) ≤ (L : Int) := by omega
                    by_cases hcap : co = q
                    · obtain rfl : L = q := by omega
                      subst hcap
                      go_wp2_with (first
                        | (go_at_call 38; refine (HINT.out _ (Below.refl _ _)).mono ?_; rintro e wI ⟨vI, rfl, hoI, hbI⟩; have hszI := hbI.size)
                        | (at_builtin; refine wpList_app1 rfl _ _ rfl wI wt.heap.size vI _ (ou.take _) y hoI hszI (by omega) rfl rfl ?_; intro v8 w8 hown8 hap8; have hb8 := hbI.trans hap8.below; have hsz8 := hb8.size; obtain ⟨a8, c8, rfl⟩ := own_shape3 hown8)
                        | (at_builtin; refine wpList_app rfl _ _ rfl w8 wt.heap.size _ _ _ _ 0 _ [] hown8 hsz8 (by omega) rfl (.inl rfl) (by intro h; cases h) rfl rfl ?_; intro v9 w9 hown9 hb9))
                      go_roundw
                      case rel => exact ⟨j + 1, _, _, by omega, by go_num, HFIN.out _ _ _ (by rw [HL.out]) (by rw [List.drop_of_length_le (by rw [HL.out]; exact Nat.le_refl _)]; exact hown9) (hb8.trans hb9), HNX.out⟩
                      case measure => simp [intOf]; omega
                    · go_wp2_with (first
                        | (go_at_call 38; refine (HINT.out _ (Below.refl _ _)).mono ?_; rintro e wI ⟨vI, rfl, hoI, hbI⟩; have hszI := hbI.size)
                        | (at_builtin; refine wpList_app1 rfl _ _ rfl wI wt.heap.size vI q (ou.take q) y hoI hszI (by omega) rfl rfl ?_; intro v8 w8 hown8 hap8; have hb8 := hbI.trans hap8.below; have hsz8 := hb8.size; have HDD := Lib.hid (HDC.out _ hb8); obtain ⟨a8, c8, rfl⟩ := own_shape3 hown8)
                        | (at_builtin; refine wpList_app rfl _ _ rfl w8 wt.heap.size _ _ _ _ (L - q) _ (ou.drop q) hown8 hsz8 (by omega) HLD.out (by first | exact .inr ⟨_, rfl, HDD.out⟩ | (split <;> first | (left; omega) | exact .inr ⟨_, rfl, HDD.out⟩)) (by intro h; first | cases h | (split at h <;> cases h)) rfl rfl ?_; intro v9 w9 hown9 hb9))
                      go_roundw
                      case rel => exact ⟨j + 1, _, _, by omega, by go_num, HFIN.out _ _ _ HLQ.out hown9 (hb8.trans hb9), HNX.out⟩
                      case measure => simp [intOf]; omega
            · have hjm : j = ml := by omega
              subst hjm
              have HR2 : Hid (FrR BB sn ou (xss.take (k + 1)).flatten) := by
                have h := HR.out
                rw [← HML.out, List.take_length] at h
                rw [HF2K.out]
                exact h
              go_wp2_with fail
              go_roundw
              case rel => exact ⟨k + 1, sn, ou, by omega, by go_num, HF.out, HR2.out⟩
              case measure => simp [intOf]; omega
        · have hkm : k = m := by omega
          subst hkm
          have HEQ : Hid (ou = freeL bs xss) := by
            rw [HFR.out, HR.out.eq, HE2.out]; rfl
          have HROW : Hid (Row wr u5 (freeL bs xss)) := by rw [← HEQ.out]; exact own_row HF.out.oo
          go_wp2_with fail
          go_ret
          exact ⟨⟨_, rfl, HROW.out⟩, hbw⟩
end Go.Proofs.YtcodmijphejfdaaDoor
