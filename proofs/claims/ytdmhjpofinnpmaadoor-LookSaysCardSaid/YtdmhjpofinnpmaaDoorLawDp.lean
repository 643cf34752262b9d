/- The law LookDepths: true for whatever arguments. Conditions: the slice and the numbers read as 64-bit ints; the two errors lie as 'Sents2' says. -/
import Derived.Test.YtdmhjpofinnpmaaDoorLkG
import Derived.Test.YtdmhjpofinnpmaaDoorLkH
import Derived.Test.YtdmhjpofinnpmaaDoorLkC
import Derived.Test.YtdmhjpofinnpmaaDoorRgK
import Derived.Test.YtdmhjpofinnpmaaDoorRead
namespace Go.Proofs.YtdmhjpofinnpmaaDoor
open Go.RowKit

/-- A circuit's variable at b whose outputs are a row of the call's own. -/
structure CS (w3 : World) (b : Nat) (n : Int) (u o : Value) (os : List Int) (W : World) : Prop where
  cv : CV W b n u o
  bel : Below b w3 W
  own : W.ownsRow (b + 1) 3 1 o os.length (os.map (Value.int .i64))
theorem CS.keep {w3 : World} {b : Nat} {n : Int} {u o : Value} {os : List Int} {W W' : World} (h : CS w3 b n u o os W) (hb : Below W.heap.size W W') : CS w3 b n u o os W' :=
  ⟨h.cv.keep hb, h.bel.trans (hb.mono (Nat.le_of_lt h.cv.lt)), own_keep h.own hb⟩
theorem cs_outs {w3 : World} {b : Nat} {n : Int} {u o : Value} {W : World} (hc : CV W b n u o) (hb : Below b w3 W) (xs : List Int) (k : Nat) (hk : xs.length = k) (hx : k ≤ 1000000) : CS w3 b n u (.slice (some ⟨W.heap.size, 0, none⟩) k k) xs ((W.setCell ⟨b, 2, none⟩ (.slice (some ⟨W.heap.size, 0, none⟩) k k)).alloc (.cells (xs.map (Value.int .i64)).toArray 3)) := by
  subst hk
  have hz : (W.setCell ⟨b, 2, none⟩ (.slice (some ⟨W.heap.size, 0, none⟩) xs.length xs.length)).heap.size = W.heap.size := by simp
  have h0 := hc.set2 (.slice (some ⟨W.heap.size, 0, none⟩) xs.length xs.length)
  have h2 := own_lit (W.setCell ⟨b, 2, none⟩ (.slice (some ⟨W.heap.size, 0, none⟩) xs.length xs.length)) (b + 1) 3 (xs.map (Value.int .i64)) h0.lt (by rw [List.length_map]; exact hx)
  rw [List.length_map, hz] at h2
  exact ⟨h0.keep ((Below.refl _ _).alloc (Nat.le_refl _) _), (hb.setCell (Nat.le_refl _) _).alloc (Nat.le_of_lt h0.lt) _, h2⟩
theorem check_outs {N : Nat} {ps : List (Int × Int)} {os os' : List Int} (hc : checkC (N : Int) ps os = 0) (h : ∀ o ∈ os', okO (N + ps.length) o = true) : checkC (N : Int) ps os' = 0 := by
  obtain ⟨h1, h2, _⟩ := check_zero8 hc
  exact mk_right h1 h2 h
theorem check_in64 {N : Nat} {ps : List (Int × Int)} {os : List Int} (hc : checkC (N : Int) ps os = 0) : ∀ o ∈ os, in64 o := by
  obtain ⟨h1, _, h3⟩ := check_zero8 hc
  intro o ho
  obtain ⟨j, hj, rfl⟩ := List.getElem_of_mem ho
  have := (okO_iff _ _).1 (h3 j hj)
  simp only [List.getD, List.getElem?_eq_getElem hj, Option.getD_some] at this
  unfold in64
  omega

set_option maxRecDepth 8000 in
set_option maxHeartbeats 8000000 in
theorem lawDp_any (A : Nat → Addr) (n : Int) (a2 : Option Addr) (c2 : Nat) (ls : List Int) (k : Int) (w : World) (hS : Sents2 w A) (hn : in64 n) (hl : RowAt w a2 c2 ls) (hlb : ∀ y ∈ ls, in64 y) (hk : in64 k) :
    Calls Tryd.prog 6 #[.int .i64 n, .slice a2 ls.length c2, .int .i64 k] w fun e w' => e = .returned (.bool true) ∧ Below w.heap.size w w' := by
  have HF := Lib.hid (first10_any A w hS)
  by_cases hout : 60 < ls.length
  · have d1 : decide (60 < ls.length) = true := decide_eq_true hout
    clear hl hlb hS
    generalize ls.length = m at *
    go_enter Tryd.func6, Tryd.ntmps6
    go_wp2_with fail
    refine HF.out.mono ?_
    rintro e w1 ⟨rfl, hb1⟩
    go_wp2_with fail
    go_ret
    exact ⟨rfl, hb1⟩
  · have d1 : decide (60 < ls.length) = false := decide_eq_false hout
    have HS := Lib.hid (fun W (hW : Below w.heap.size w W) => hS.keep hW)
    have NA := Lib.hid (fun W => number_any n 30 W (by omega) (by omega) hn.1 hn.2)
    obtain ⟨M, hM⟩ : ∃ M : Nat, n % 30 = (M : Int) := ⟨(n % 30).toNat, by omega⟩
    have hM30 : M < 30 := by omega
    rw [hM] at NA
    have HMK := Lib.hid (fun W (hW : Below w.heap.size w W) => mkc_any 5 (.slice a2 ls.length c2) (.slice none 0 0) ls [] W ⟨_, _, rfl, hl.keep hW⟩ (Row.nil _) (by omega) (by omega) (by simp) hlb (by simp))
    have HL60 : Hid (ls.length ≤ 60) := by unfold Hid; omega
    clear hS hl hlb hM hn
    generalize ls.length = m2 at *
    go_enter Tryd.func6, Tryd.ntmps6
    go_wp2_with fail
    refine HF.out.mono ?_
    rintro e w1 ⟨rfl, hb1⟩
    have HB1 := Lib.hid hb1
    clear hb1 HF
    go_wp2_with fail
    refine (NA.out _).mono ?_
    rintro e w' ⟨rfl, rfl⟩
    go_wp2_with fail
    have HC0 := Lib.hid (CV.new w1 (2 : Int) (.slice none 0 0) (.slice none 0 0) 26)
    have HA0 : Hid (Below w1.heap.size w1 (w1.alloc (.cells #[.int .i64 2, .slice none 0 0, .slice none 0 0] 26))) := (Below.refl _ _).alloc (Nat.le_refl _) _
    generalize w1.alloc (.cells #[.int .i64 2, .slice none 0 0, .slice none 0 0] 26) = wa at *
    have HB1S : Hid (w.heap.size ≤ w1.heap.size) := HB1.out.size
    generalize hb : w1.heap.size = b at *
    go_loopw [10, 9, 11] (fun i last _ wr => ∃ (j : Nat) (u : Value), j ≤ M ∧ i = .int .i64 (j : Int) ∧ last = .int .i64 (lastP j) ∧ CV wr b 2 u (.slice none 0 0) ∧ wr.ownsRow (b + 1) 49 2 u j ((rowP j).flatMap pcells) ∧ Below b w1 wr) (fun i _ _ _ => M - (intOf i).toNat)
    case atStart => exact ⟨0, _, Nat.zero_le _, rfl, rfl, HC0.out, World.ownsRow_nil _ _ _ _, HA0.out⟩
    case round =>
      obtain ⟨j, u, hj, rfl, rfl, hcv, hrow, hbr⟩ := hrel
      clear HC0 HA0
      obtain ⟨au, cu, rfl, _, _⟩ := row_shape hrow
      have HCV := Lib.hid hcv
      have hsz := hcv.lt
      by_cases hlt : j < M
      · have hj1000 : j < 1000 := by omega
        have HLN : Hid (lastP (j + 1) = 2 * (3 + (j : Int))) := by unfold Hid lastP; rw [if_neg (by omega)]; omega
        have HRS := Lib.hid (rowP_succ j)
        have HBR := Lib.hid hbr
        have hlp : (lastP j < 4 ∧ ¬ 4 < lastP j ∧ max (lastP j) 4 = 4 ∧ min (lastP j) 4 = lastP j) ∨ (4 < lastP j ∧ ¬ lastP j < 4 ∧ max (lastP j) 4 = lastP j ∧ min (lastP j) 4 = 4) := by unfold lastP; split <;> omega
        have HF2 : Hid (∀ (x y : Int) v' w2, rowP (j + 1) = rowP j ++ [(x, y)] → w2.ownsRow (b + 1) 49 2 v' (j + 1) ((rowP j).flatMap pcells ++ pcells (x, y)) → App (b + 1) wr w2 (.slice au j cu) v' → CV (w2.setCell ⟨b, 1, none⟩ v') b 2 v' (.slice none 0 0) ∧ (w2.setCell ⟨b, 1, none⟩ v').ownsRow (b + 1) 49 2 v' (j + 1) ((rowP (j + 1)).flatMap pcells) ∧ Below b w1 (w2.setCell ⟨b, 1, none⟩ v')) := fun x y v' w2 hx hown hap => by
          have hk : Below (b + 1) wr w2 := hap.below
          have hc2 : CV w2 b 2 (.slice au j cu) (.slice none 0 0) := ⟨(hk.cell (p := ⟨b, 0, none⟩) (Nat.lt_succ_self _)).trans HCV.out.c0, (hk.cell (p := ⟨b, 1, none⟩) (Nat.lt_succ_self _)).trans HCV.out.c1, (hk.cell (p := ⟨b, 2, none⟩) (Nat.lt_succ_self _)).trans HCV.out.c2, fun k => (hk.frozen (p := ⟨b, k, none⟩) (Nat.lt_succ_self _)).trans (HCV.out.fr k), Nat.lt_of_lt_of_le HCV.out.lt hk.size⟩
          exact ⟨hc2.set1 v', ownsRow_setCell_below (by rw [hx]; simpa using hown) (a := ⟨b, 1, none⟩) (Nat.lt_succ_self _) _, (HBR.out.trans (hk.mono (Nat.le_succ _))).setCell (Nat.le_refl _) _⟩
        have HKB : Hid (∀ w2 v', App (b + 1) wr w2 (.slice au j cu) v' → w2.cell? ⟨b, 1, none⟩ = some (.slice au j cu) ∧ ∀ k, w2.frozen? ⟨b, k, none⟩ = false) := fun w2 v' hap => ⟨(hap.below.cell (p := ⟨b, 1, none⟩) (Nat.lt_succ_self _)).trans HCV.out.c1, fun k => (hap.below.frozen (p := ⟨b, k, none⟩) (Nat.lt_succ_self _)).trans (HCV.out.fr k)⟩
        obtain ⟨z0, z1, z2, _, _⟩ := hcv
        have hlb4 : lastP j ≤ 1000 ∧ 0 ≤ lastP j := by unfold lastP; split <;> omega
        obtain ⟨hlb5, hlb6⟩ := hlb4
        generalize lastP j = ll at *
        clear hbr
        rcases hlp with ⟨h1, h2, e1, e2⟩ | ⟨h1, h2, e1, e2⟩
        · rw [e1, e2] at HRS
          clear e1 e2
          go_wp2_with (at_builtin; refine wpList_appS 24 49 _ 2 16 Tryd.underlying24 infoA rfl (by decide) (by decide) rfl _ _ rfl wr (b + 1) _ j ((rowP j).flatMap pcells) (pcells (4, ll)) (pcells_one _) rfl hrow hsz (by omega) _ rfl rfl rfl ?_; intro v' w2 hown2 hap; obtain ⟨k1, kf⟩ := HKB.out w2 v' hap; obtain ⟨f1, f2, f3⟩ := HF2.out 4 ll v' w2 HRS.out hown2 hap; have HF3 := Lib.hid (And.intro f1 (And.intro f2 f3)); clear f1 f2 f3; obtain ⟨a', c', rfl, _, _⟩ := row_shape hown2; clear hown2 hap)
          go_roundw
          case rel => exact ⟨j + 1, _, by omega, by go_num, by rw [HLN.out], HF3.out.1, HF3.out.2.1, HF3.out.2.2⟩
          case measure => simp [intOf]; omega
        · rw [e1, e2] at HRS
          clear e1 e2
          go_wp2_with (at_builtin; refine wpList_appS 24 49 _ 2 16 Tryd.underlying24 infoA rfl (by decide) (by decide) rfl _ _ rfl wr (b + 1) _ j ((rowP j).flatMap pcells) (pcells (ll, 4)) (pcells_one _) rfl hrow hsz (by omega) _ rfl rfl rfl ?_; intro v' w2 hown2 hap; obtain ⟨k1, kf⟩ := HKB.out w2 v' hap; obtain ⟨f1, f2, f3⟩ := HF2.out ll 4 v' w2 HRS.out hown2 hap; have HF3 := Lib.hid (And.intro f1 (And.intro f2 f3)); clear f1 f2 f3; obtain ⟨a', c', rfl, _, _⟩ := row_shape hown2; clear hown2 hap)
          go_roundw
          case rel => exact ⟨j + 1, _, by omega, by go_num, by rw [HLN.out], HF3.out.1, HF3.out.2.1, HF3.out.2.2⟩
          case measure => simp [intOf]; omega
      · have hMj : M = j := by omega
        subst hMj
        have HRR := Lib.hid (rowP_right M (by omega))
        have HRD := Lib.hid (rowP_depth M)
        have HRC := Lib.hid (rowP_cone M)
        have hll := lastP_bd M
        have HRL := Lib.hid (rowP_len M)
        have hlb4 : lastP M ≤ 1000 := by unfold lastP; split <;> omega
        have HLB := Lib.hid hlb4
        have HLL := Lib.hid hll
        clear hj hlt hlb4 hll
        generalize lastP M = ll at *
        have HC1 := Lib.hid (cs_outs hcv hbr [ll] 1 rfl (by omega))
        have HRO : Hid (PRow ((wr.setCell ⟨b, 2, none⟩ (.slice (some ⟨wr.heap.size, 0, none⟩) 1 1)).alloc (.cells ([ll].map (Value.int .i64)).toArray 3)) (.slice au M cu) (rowP M)) :=
          own_prow (own_keep (ownsRow_setCell_below hrow (a := ⟨b, 2, none⟩) (Nat.lt_succ_self _) _) ((Below.refl _ _).alloc (Nat.le_refl _) _))
        rw [show (([ll].map (Value.int .i64)).toArray) = #[Value.int .i64 ll] from rfl] at HC1 HRO
        obtain ⟨z0, z1, z2, zf, _⟩ := HC1.out.cv
        have HPR := Lib.hid (HRO.out)
        have HBW := Lib.hid (HB1.out.trans (HC1.out.bel.mono (by have := HB1S.out; exact this)))
        have HD := Lib.hid (fun W (hW : Below ((wr.setCell ⟨b, 2, none⟩ (.slice (some ⟨wr.heap.size, 0, none⟩) 1 1)).alloc (.cells #[.int .i64 ll] 3)).heap.size ((wr.setCell ⟨b, 2, none⟩ (.slice (some ⟨wr.heap.size, 0, none⟩) 1 1)).alloc (.cells #[.int .i64 ll] 3)) W) => ldepth_any A 2 (.slice au M cu) (.slice (some ⟨wr.heap.size, 0, none⟩) 1 1) (rowP M) [ll] W (HS.out _ (HBW.out.trans (hW.mono HBW.out.size))) (HPR.out.keep hW) ((own_row HC1.out.own).keep hW) (by simp) (check_in64 HRR.out) HRR.out)
        have HCN := Lib.hid (fun W (hW : Below ((wr.setCell ⟨b, 2, none⟩ (.slice (some ⟨wr.heap.size, 0, none⟩) 1 1)).alloc (.cells #[.int .i64 ll] 3)).heap.size ((wr.setCell ⟨b, 2, none⟩ (.slice (some ⟨wr.heap.size, 0, none⟩) 1 1)).alloc (.cells #[.int .i64 ll] 3)) W) => lcone_any A 2 (.slice au M cu) (.slice (some ⟨wr.heap.size, 0, none⟩) 1 1) (rowP M) [ll] ll (ll / 2).toNat W (HS.out _ (HBW.out.trans (hW.mono HBW.out.size))) (HPR.out.keep hW) ((own_row HC1.out.own).keep hW) (by simp) (check_in64 HRR.out) HRR.out HLL.out.1 (by have := HLL.out; omega) (by rw [HRL.out]; have := HLL.out; omega))
        rw [HRD.out, show ((2 : Nat) : Int) = 2 from rfl] at HD
        rw [HRC.out, show ((2 : Nat) : Int) = 2 from rfl] at HCN
        have HCVK := Lib.hid (fun W (hW : Below ((wr.setCell ⟨b, 2, none⟩ (.slice (some ⟨wr.heap.size, 0, none⟩) 1 1)).alloc (.cells #[.int .i64 ll] 3)).heap.size ((wr.setCell ⟨b, 2, none⟩ (.slice (some ⟨wr.heap.size, 0, none⟩) 1 1)).alloc (.cells #[.int .i64 ll] 3)) W) => HC1.out.cv.keep hW)
        have hne : ((M : Int) != (M : Int)) = false := by simp
        obtain ⟨g0, g1, g2, gf, _⟩ := hcv
        unfold circV at HD HCN
        clear hrow hbr HRR HRD HRC HRO HPR HRL
        go_wp2_with fail
        generalize ((wr.setCell ⟨b, 2, none⟩ (.slice (some ⟨wr.heap.size, 0, none⟩) 1 1)).alloc (.cells #[.int .i64 ll] 3)) = wx at *
        clear z0 z1 z2 zf g0 g1 g2 gf
        refine (HD.out _ (Below.refl _ _)).mono ?_
        rintro e w3 ⟨rfl, hb3⟩
        have HC3 := Lib.hid (HCN.out _ hb3)
        obtain ⟨z0, z1, z2, _, _⟩ := HCVK.out _ hb3
        have HB3 := Lib.hid (HBW.out.trans (hb3.mono HBW.out.size))
        clear hb3 HD HCN HCVK HC1
        go_wp2_with fail
        refine HC3.out.mono ?_
        rintro e w4 ⟨⟨zc, rfl, hzc⟩, hb4⟩
        obtain ⟨azc, czc, rfl, _, _⟩ := own_shape hzc
        have HB4 := Lib.hid (HB3.out.trans (hb4.mono HB3.out.size))
        clear hzc hb4 z0 z1 z2 HC3
        have HM := Lib.hid (HMK.out _ HB4.out)
        rw [show ((5 : Nat) : Int) = 5 from rfl] at HM
        go_wp2_with fail
        refine HM.out.mono ?_
        rintro e w5 ⟨⟨u', v', ps', os', rfl, hu', hv', hck, hpl, hol, hpb, hob⟩, hb5⟩
        have HB5 := Lib.hid (HB4.out.trans (hb5.mono HB4.out.size))
        clear hb5 HM HMK
        have HU := Lib.hid (fun W (hW : Below w5.heap.size w5 W) => hu'.keep hW)
        have HCK := Lib.hid hck
        obtain ⟨hnm, hokp, hoko⟩ := check_zero8 hck
        have HPB := Lib.hid hpb
        obtain ⟨au5, cu5, rfl, hu1, hu2, hu3⟩ := hu'
        obtain ⟨av5, cv5, rfl, _⟩ := hv'
        unfold maxLen at hu2
        have HU3 := Lib.hid hu3
        have HC5 := Lib.hid (CV.new w5 (5 : Int) (.slice au5 ps'.length cu5) (.slice av5 os'.length cv5) 26)
        have HA5 : Hid (Below w5.heap.size w5 (w5.alloc (.cells #[.int .i64 5, .slice au5 ps'.length cu5, .slice av5 os'.length cv5] 26))) := (Below.refl _ _).alloc (Nat.le_refl _) _
        have HKK := Lib.hid (fun K (hK : K < ps'.length) => (And.intro (depth_gate hokp K hK) (And.intro (cone_sub hokp K hK) (And.intro (check_outs (os' := [2 * ((5 + 1 + K : Nat) : Int)]) hck (fun o ho => by rw [List.mem_singleton] at ho; subst ho; rw [okO_iff]; omega)) (And.intro (check_outs (os' := [(ps'.getD K (0, 0)).1, (ps'.getD K (0, 0)).2]) hck (fun o ho => by
            have := (okP_iff _ _ _).1 (hokp K hK)
            simp only [List.mem_cons, List.not_mem_nil, or_false] at ho
            rw [okO_iff]
            rcases ho with rfl | rfl <;> omega)) ((okP_iff _ _ _).1 (hokp K hK)))))))
        clear hck hokp hoko hpb hob hu3 hol
        unfold circV
        rw [show ((5 : Nat) : Int) = 5 from rfl]
        have hm60 : ps'.length ≤ 60 := Nat.le_trans hpl HL60.out
        generalize os'.length = m6 at *
        generalize hm5 : ps'.length = m5 at *
        have HM5 := Lib.hid hm5
        clear hm5 hpl
        by_cases h0 : m5 = 0
        · subst h0
          clear HKK HU3
          go_wp2_with fail
          go_ret
          exact ⟨rfl, HB5.out.trans (HA5.out.mono HB5.out.size)⟩
        · obtain ⟨K, hK⟩ : ∃ K : Nat, k % (m5 : Int) = (K : Int) := ⟨(k % (m5 : Int)).toNat, by have := Int.emod_nonneg k (show (m5 : Int) ≠ 0 by omega); omega⟩
          have hKm : K < m5 := by have := Int.emod_lt_of_pos k (show (0 : Int) < (m5 : Int) by omega); omega
          have NB := Lib.hid (fun W => number_any k (m5 : Int) W (by omega) (by omega) hk.1 hk.2)
          rw [hK] at NB
          obtain ⟨q, off, ha, hql, hcl⟩ := HU3.out.resolve_left h0
          subst ha
          obtain ⟨x0, x1⟩ := hcl K hKm
          have y0 := (HA5.out.cell (p := ⟨q, off + K * 2, none⟩) hql).trans x0
          have y1 := (HA5.out.cell (p := ⟨q, off + K * 2 + 1, none⟩) hql).trans x1
          obtain ⟨hdg, hcs, hk1, hk2, hox⟩ := HKK.out K hKm
          have HDG := Lib.hid hdg
          have HCS := Lib.hid hcs
          have HK1 := Lib.hid hk1
          have HK2 := Lib.hid hk2
          have HSE := Lib.hid (cone_self 5 ps' K)
          obtain ⟨hox1, hox2, hox3⟩ := hox
          clear hK hcl x0 x1 hdg hcs hk1 hk2 HKK HU3 hk
          generalize ps'.getD K (0, 0) = xy at *
          obtain ⟨x, y⟩ := xy
          simp only at y0 y1 HDG HCS HK1 HK2 hox1 hox2 hox3
          have hmb : ((m5 : Int) == 0) = false := by simp; omega
          have hqb : q < w5.heap.size := hql
          go_wp2_with fail
          generalize hw6 : w5.alloc (.cells #[.int .i64 5, .slice (some ⟨q, off, none⟩) m5 cu5, .slice av5 m6 cv5] 26) = w6 at *
          refine (NB.out _).mono ?_
          rintro e w' ⟨rfl, rfl⟩
          clear NB hw6
          obtain ⟨z0, z1, z2, zf, zl⟩ := HC5.out
          have hk0 : (0 : Int) ≤ (K : Int) := Int.natCast_nonneg K
          have hk1 : (K : Int) < (m5 : Int) := by omega
          have eN : ((5 + 1 + K : Nat) : Int) = 6 + (K : Int) := by omega
          rw [eN] at HDG HK1 HSE
          have HQ7 := Lib.hid (cs_outs HC5.out HA5.out [2 * (6 + (K : Int))] 1 rfl (by omega))
          rw [show (([2 * (6 + (K : Int))].map (Value.int .i64)).toArray) = #[Value.int .i64 (2 * (6 + (K : Int)))] from rfl] at HQ7
          obtain ⟨v0, v1, v2, vf, vl⟩ := HQ7.out.cv
          go_wp2_with fail
          generalize (w6.setCell ⟨w5.heap.size, 2, none⟩ (.slice (some ⟨w6.heap.size, 0, none⟩) 1 1)).alloc (.cells #[.int .i64 (2 * (6 + (K : Int)))] 3) = w7 at *
          have HDP := Lib.hid (fun W os o (hq : CS w5 w5.heap.size 5 (.slice (some ⟨q, off, none⟩) m5 cu5) o os W) (hol : os.length ≤ 1000000) (hc : checkC ((5 : Nat) : Int) ps' os = 0) => ldepth_any A 5 (.slice (some ⟨q, off, none⟩) m5 cu5) o ps' os W (HS.out W (HB5.out.trans (hq.bel.mono HB5.out.size))) (HU.out W hq.bel) (own_row hq.own) hol (check_in64 hc) hc)
          have HCO := Lib.hid (fun W os o (hq : CS w5 w5.heap.size 5 (.slice (some ⟨q, off, none⟩) m5 cu5) o os W) (hol : os.length ≤ 1000000) (hc : checkC ((5 : Nat) : Int) ps' os = 0) l L h0 hL hLN => lcone_any A 5 (.slice (some ⟨q, off, none⟩) m5 cu5) o ps' os l L W (HS.out W (HB5.out.trans (hq.bel.mono HB5.out.size))) (HU.out W hq.bel) (own_row hq.own) hol (check_in64 hc) hc h0 hL hLN)
          have HRK := Lib.hid (fun W os o (hq : CS w5 w5.heap.size 5 (.slice (some ⟨q, off, none⟩) m5 cu5) o os W) (hol : os.length ≤ 1000000) (hc : checkC ((5 : Nat) : Int) ps' os = 0) => rcheck_any ((5 : Nat) : Int) (.slice (some ⟨q, off, none⟩) m5 cu5) o ps' os W (HU.out W hq.bel) (own_row hq.own) ⟨by omega, by omega⟩ (by rw [HM5.out]; omega) hol HPB.out (check_in64 hc))
          have HBD := Lib.hid (depthO_bd (depthsV 5 ps') 8000 (by omega) (fun j => by have := (DepI.all 5 ps').hi j; rw [HM5.out] at this; omega) [x, y])
          rw [show depthO (depthsV 5 ps') [x, y] = depthV 5 ps' [x, y] from rfl] at HBD
          unfold circV at HDP HCO HRK
          rw [show ((5 : Nat) : Int) = 5 from rfl] at HDP HCO HRK HK1 HK2
          have HD7 := Lib.hid (HDP.out _ _ _ HQ7.out (by simp) HK1.out)
          have HD9 := Lib.hid (fun W o hq => HDP.out W [x, y] o hq (by simp) HK2.out)
          have HCA := Lib.hid (fun W o hq => HCO.out W [x, y] o hq (by simp) HK2.out (2 * (6 + (K : Int)) + 1) (5 + 1 + K) (by omega) (by omega) (by rw [HM5.out]; omega))
          have HCB := Lib.hid (fun W o hq => HCO.out W [x, y] o hq (by simp) HK2.out x (x / 2).toNat (by omega) (by omega) (by rw [HM5.out]; omega))
          have HCK9 := Lib.hid (fun W o hq => HRK.out W [x, y] o hq (by simp) HK2.out)
          rw [HDG.out] at HD7
          rw [HK2.out] at HCK9
          clear HDP HCO HRK HDG HK1 HK2 z0 z1 z2 zf zl v0 v1 v2 vf vl y0 y1
          obtain ⟨hD0, hD1⟩ := HBD.out
          generalize depthV 5 ps' [x, y] = D at *
          generalize coneL 5 ps' (5 + 1 + K) = co at *
          generalize coneL 5 ps' (x / 2).toNat = cb at *
          refine HD7.out.mono ?_
          rintro e w8 ⟨rfl, hb8⟩
          have HQ8 := Lib.hid (HQ7.out.keep hb8)
          clear hb8 HD7 HQ7 HC5 HA5
          obtain ⟨z0, z1, z2, zf, zl⟩ := HQ8.out.cv
          have HQ9 := Lib.hid (cs_outs HQ8.out.cv HQ8.out.bel [x, y] 2 rfl (by omega))
          rw [show (([x, y].map (Value.int .i64)).toArray) = #[Value.int .i64 x, Value.int .i64 y] from rfl] at HQ9
          obtain ⟨v0, v1, v2, vf, vl⟩ := HQ9.out.cv
          go_wp2_with fail
          generalize (w8.setCell ⟨w5.heap.size, 2, none⟩ (.slice (some ⟨w8.heap.size, 0, none⟩) 2 2)).alloc (.cells #[.int .i64 x, .int .i64 y] 3) = w9 at *
          refine (HD9.out _ _ HQ9.out).mono ?_
          rintro e w10 ⟨rfl, hb10⟩
          have HQ10 := Lib.hid (HQ9.out.keep hb10)
          clear hb10 HD9 HQ8 HQ9 z0 z1 z2 zf zl v0 v1 v2 vf vl
          obtain ⟨z0, z1, z2, zf, zl⟩ := HQ10.out.cv
          go_wp2_with fail
          refine (HCA.out _ _ HQ10.out).mono ?_
          rintro e w11 ⟨⟨za, rfl, hza⟩, hb11⟩
          have HQ11 := Lib.hid (HQ10.out.keep hb11)
          have HRA := Lib.hid (own_row hza)
          obtain ⟨aza, cza, rfl, _, _⟩ := own_shape hza
          clear hza hb11 HCA HQ10 z0 z1 z2 zf zl
          obtain ⟨z0, z1, z2, zf, zl⟩ := HQ11.out.cv
          go_wp2_with fail
          refine (HCB.out _ _ HQ11.out).mono ?_
          rintro e w12 ⟨⟨zb, rfl, hzb⟩, hb12⟩
          have HQ12 := Lib.hid (HQ11.out.keep hb12)
          have HHA := Lib.hid (fun z => has_any _ co z w12 (HRA.out.keep hb12))
          obtain ⟨azb, czb, rfl, hzb1, hzb2, hzb3⟩ := own_row hzb
          have HZB := Lib.hid hzb3
          unfold maxLen at hzb2
          clear hzb hb12 HCB HQ11 HRA z0 z1 z2 zf zl hzb3
          obtain ⟨z0, z1, z2, zf, zl⟩ := HQ12.out.cv
          have HHM := Lib.hid (fun z (hz : z ∈ cb) => show (decide (z ∈ co)) = true from decide_eq_true (HCS.out z hz))
          have HGM : Hid (∀ j, j < cb.length → cb.getD j 0 ∈ cb) := fun j hj => by rw [show cb.getD j 0 = cb[j] by simp [List.getD, hj]]; exact List.getElem_mem hj
          generalize hnb : cb.length = nb at *
          clear hnb
          go_wp2_with fail
          go_loop [20] (fun i => ∃ j : Nat, j ≤ nb ∧ i = .int .i64 (j : Int)) (fun i => nb - (intOf i).toNat)
          case atStart => exact ⟨0, Nat.zero_le _, rfl⟩
          case round =>
            obtain ⟨j, hj, rfl⟩ := hrel
            by_cases hlt : j < nb
            · obtain ⟨qb, ob, ha, hqb2, hcl⟩ := HZB.out.resolve_left (by omega)
              subst ha
              have y0 := hcl j hlt
              have HH := Lib.hid (HHA.out (cb.getD j 0))
              rw [HHM.out _ (HGM.out j hlt)] at HH
              clear hcl
              generalize cb.getD j 0 = zz at *
              go_wp2_with fail
              refine HH.out.mono ?_
              rintro e w' ⟨rfl, rfl⟩
              go_wp2_with fail
              go_round
              case rel => exact ⟨j + 1, by omega, by go_num⟩
              case measure => simp [intOf]; omega
            · have HH := Lib.hid (HHA.out (6 + (K : Int)))
              rw [decide_eq_true HSE.out] at HH
              have HCK := Lib.hid (HCK9.out _ _ HQ12.out)
              have HBF := Lib.hid (fun W (hW : Below w12.heap.size w12 W) => HB5.out.trans ((HQ12.out.keep hW).bel.mono HB5.out.size))
              go_wp2_with fail
              refine HH.out.mono ?_
              rintro e w' ⟨rfl, rfl⟩
              go_wp2_with fail
              refine HCK.out.mono ?_
              rintro e w13 ⟨rfl, hb13⟩
              go_wp2_with fail
              go_ret
              exact ⟨rfl, HBF.out _ hb13⟩
end Go.Proofs.YtdmhjpofinnpmaaDoor
