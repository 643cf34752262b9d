/- Contracts of heap's top, Pop, Push. Conditions: the heap lies in memory as 'HpS' says; the tie is a 64-bit int. -/
import Derived.Test.YteiidcogjmekhaaHpG
namespace Go.Proofs.Yteiidcogjmekhaa
open Go.RowKit

set_option maxRecDepth 8000 in
set_option maxHeartbeats 2000000 in
theorem htop_any {p a b t ca cb ct : Nat} {h : Hp} {m : Int} {T : List Nd} (D q : Nat) (w : World) (ha : HpAt w p a b t ca cb ct h.ss h.ins m T) (ht : TreeOk D h.ss h.ins T) (hw : HpW h) (hL : h.ss.length ≤ 2 ^ D) (hD : 2 ^ D ≤ 128) (hq : q < (bestL h).length) :
    Calls Try.prog 27 #[.pointer (some ⟨p, 0, none⟩), .int .i64 (q : Int)] w fun e w' => e = .returned (.int .i64 ((bestL h).getD q 0)) ∧ Below w.heap.size w w' := by
  obtain ⟨M, hd, hM⟩ := ht.down hw hL hq
  rw [← hM]
  have HD := Lib.hid hd
  have HT := Lib.hid ht
  have HA := Lib.hid ha
  have HS0 : Hid (∀ v, 0 ≤ h.ss.getD v 0) := fun v => (hw.bd v).1
  have c3 := ha.c3
  have hTL := ht.len
  have hpw : 1 ≤ 2 ^ D := Nat.pow_pos (by decide)
  have hql : q ≤ 100 := by
    have h1 := ht.top hw hL
    have h2 : (bestL h).length ≤ h.ss.length := by
      unfold bestL
      rw [(best_of (fun v => (hw.bd v).1) _).lst]
      unfold candL
      rw [List.length_map]
      exact Nat.le_trans (List.length_filter_le _ _) (by simp)
    have := hw.top
    omega
  obtain ⟨x0, _⟩ := ha.node (i := 1) (by omega)
  simp only [Nat.one_mul] at x0
  rw [hTL] at c3
  generalize hW : 2 ^ D = W at *
  have HW := Lib.hid hW
  generalize (T.getD 1 z2).1 = s at *
  clear hM hd ht ha hw hL hq hTL hW
  go_enter Try.func27, Try.ntmps27
  go_wp2_with fail
  clear c3 x0
  go_loopw [1, 6, 7] (fun pv nv _ wr => ∃ (d n q : Nat), q ≤ 100 ∧ pv = .int .i64 (q : Int) ∧ nv = .int .i64 (n : Int) ∧ Down D T s M d n q ∧ Below w.heap.size w wr) (fun _ nv _ _ => 300 - (intOf nv).toNat)
  case atStart => exact ⟨D, 1, q, hql, rfl, rfl, HD.out, Below.refl _ _⟩
  case round =>
    obtain ⟨d, n, q, hq, rfl, rfl, hd, hb⟩ := hrel
    clear HD hql
    have HB := Lib.hid hb
    have hA := HA.out.below hb
    have c3 := hA.c3
    have hTL := HT.out.len
    rw [HW.out] at hTL
    rw [hTL] at c3
    have hHB : ∀ V, Below wr.heap.size wr V → Below w.heap.size w V := fun V hV => hb.trans (hV.mono hb.size)
    have HHB := Lib.hid hHB
    clear hHB hb
    cases d with
    | zero =>
      have hM := hd.leafs
      have hO := hd.outer
      rw [HW.out] at hO
      subst hM
      obtain ⟨hO1, hO2⟩ := hO
      have hdd : decide ((n : Int) < (W : Int)) = false := decide_eq_false (by omega)
      have hdd2 : decide (n < W) = false := decide_eq_false (by omega)
      have HO1 := Lib.hid hO1
      clear hd hA hO1
      go_wp2_with fail
      go_ret
      exact ⟨rfl, HB.out⟩
    | succ d =>
      obtain ⟨hn1, hn2⟩ := hd.inner
      rw [HW.out] at hn1
      obtain ⟨x0, x1⟩ := hA.node (i := n * 2) (by rw [hTL]; omega)
      rw [show T.getD (n * 2) z2 = T.getD (2 * n) z2 by rw [Nat.mul_comm]] at x0 x1
      have HL1 := Lib.hid (fun hp => hd.left HT.out HS0.out hp)
      have HR1 := Lib.hid (fun hp => hd.right HT.out HS0.out hp)
      have hb := HT.out.bnd.at (2 * n) (by omega)
      rw [hTL] at hb
      clear hd hA
      generalize T.getD (2 * n) z2 = x at *
      obtain ⟨xa, xb⟩ := x
      have hof : 0 ≤ ofI (xa, xb) s ∧ ofI (xa, xb) s ≤ 300 := by
        unfold ofI; split
        · simp only at hb ⊢; omega
        · omega
      obtain ⟨hof1, hof2⟩ := hof
      have HO := Lib.hid (fun V => hof_any xa xb s V)
      simp only at x0 x1
      generalize ofI (xa, xb) s = left at *
      have hdd : decide ((n : Int) < (W : Int)) = true := decide_eq_true (by omega)
      have hdd2 : decide (n < W) = true := decide_eq_true (by omega)
      clear hb hTL
      by_cases hlt : (q : Int) < left
      · have HDN := Lib.hid (HL1.out hlt)
        have hd3 : decide (left ≤ (q : Int)) = false := decide_eq_false (by omega)
        clear hlt HL1 HR1
        go_wp2_with (go_at_call 31; refine (HO.out _).mono ?_; rintro e w3 ⟨rfl, hb3⟩; have HB3 := Lib.hid (HHB.out _ hb3); clear hb3)
        go_roundw
        case rel => exact ⟨d, 2 * n, q, hq, rfl, by go_num, HDN.out, HB3.out⟩
        case measure => go_light; simp [intOf]; omega
      · obtain ⟨q2, hq2, hdn⟩ := HR1.out (by omega)
        have HDN := Lib.hid hdn
        have HQ2 := Lib.hid hq2
        have hd3 : decide (left ≤ (q : Int)) = true := decide_eq_true (by omega)
        have hq3 : q2 ≤ 100 := by omega
        have hwr : 0 ≤ (q : Int) - left ∧ (q : Int) - left ≤ 100 := by omega
        obtain ⟨hwr1, hwr2⟩ := hwr
        clear hlt HL1 HR1 hdn hq2
        go_wp2_with (go_at_call 31; refine (HO.out _).mono ?_; rintro e w3 ⟨rfl, hb3⟩; have HB3 := Lib.hid (HHB.out _ hb3); clear hb3)
        go_roundw
        case rel => exact ⟨d, 2 * n + 1, q2, hq3, by rw [HQ2.out], by go_num, HDN.out, HB3.out⟩
        case measure => go_light; simp [intOf]; omega

/-! ### Pop, Push -/
theorem count_off {l : List Bool} {v : Nat} (h : l.getD v false = true) : (l.set v false).count true + 1 = l.count true := by
  have hv : v < l.length := by
    rcases Nat.lt_or_ge v l.length with h' | h'
    · exact h'
    · simp [List.getD, List.getElem?_eq_none h'] at h
  have he : l[v] = true := by simpa [List.getD, hv] using h
  have hp : 0 < l.count true := List.count_pos_iff.2 (he ▸ List.getElem_mem hv)
  rw [List.count_set hv, he]
  simp
  omega
theorem count_on {l : List Bool} {v : Nat} (hv : v < l.length) (h : l.getD v false = false) : (l.set v true).count true = l.count true + 1 := by
  have he : l[v] = false := by simpa [List.getD, hv] using h
  rw [List.count_set hv, he]
  simp
theorem leaf_in (ss : List Int) (ins : List Bool) (v : Nat) (x : Bool) (u : Nat) (hu : u < v ∨ v < u) : leafI ss (ins.set v x) u = leafI ss ins u := by
  unfold leafI
  rw [getD_setI, if_neg (show ¬ (v = u ∧ u < ins.length) by omega)]
theorem leaf_score (ss : List Int) (ins : List Bool) (v : Nat) (x : Int) (u : Nat) (hu : u < v ∨ v < u) : leafI (ss.set v x) ins u = leafI ss ins u := by
  unfold leafI
  rw [getD_setI, if_neg (show ¬ (v = u ∧ u < ss.length) by omega)]
theorem tell_done {w V w' : World} {p a b t ca cb ct : Nat} {h' : Hp} {D : Nat} {e : Ending} (hc : Chg [p, a, b, t] w V) (hp : TellPost V p a b t ca cb ct h'.ss h'.ins ((manyH h' : Nat) : Int) D e w') (hw : HpW h') (hL : h'.ss.length ≤ 2 ^ D) (hD : 2 ^ D ≤ 128) :
    (∃ S', HpS w' (.pointer (some ⟨p, 0, none⟩)) S' h' ∧ Fresh w [p, a, b, t] S') ∧ Chg [p, a, b, t] w w' := by
  obtain ⟨_, ⟨T', hA, hT⟩, hC⟩ := hp
  exact ⟨⟨_, ⟨p, a, b, t, ca, cb, ct, T', D, rfl, rfl, hA, hT, hw, hL, hD⟩, Fresh.refl _ _⟩, hc.trans hC (fun i hi => .inl (by simp at hi; simp [hi]))⟩

set_option maxRecDepth 8000 in
set_option maxHeartbeats 2000000 in
theorem hpush_any {v : Value} {S : List Nat} {h : Hp} (w : World) (hs : HpS w v S h) (x : Int) (_h1 : -9223372036854775808 ≤ x) (_h2 : x ≤ 9223372036854775807) :
    Calls Try.prog 9 #[v, .int .i64 x] w (HPost w v S (pushH h x) (.bool (pushOk h x))) := by
  have HS := Lib.hid hs
  obtain ⟨p, a, b, t, ca, cb, ct, T, D, rfl, rfl, ha, ht, hw, hL, hD⟩ := hs
  have HI := Lib.hid (his_any (n := h.ss.length) x w ha.c0)
  have c1 := ha.c1
  rw [hw.len] at c1
  have HP : Hid (pushOk h x = (isN h.ss.length x && !h.ins.getD x.toNat false)) := rfl
  cases hi : isN h.ss.length x with
  | false =>
    rw [hi] at HI HP
    have HQ : Hid (pushH h x = h) := by unfold Hid pushH; rw [HP.out]; rfl
    clear ha ht hw
    go_enter Try.func9, Try.ntmps9
    go_wp2_with (go_at_call 24; refine HI.out.mono ?_; rintro e w' ⟨rfl, rfl⟩)
    go_ret
    exact ⟨ret_bool (by rw [HP.out]; rfl), ⟨_, by rw [HQ.out]; exact HS.out, Fresh.refl _ _⟩, Chg.refl _ _⟩
  | true =>
    rw [hi] at HI HP
    rw [isN_iff] at hi
    obtain ⟨k, rfl⟩ := Int.eq_ofNat_of_zero_le (show 0 ≤ x by omega)
    obtain ⟨k1, k2⟩ := hi
    rw [Int.toNat_natCast] at HP
    have hki : k < h.ins.length := by rw [hw.len]; omega
    have x0 := ha.isin hki
    have f0 := own_frozen ha.rb k
    have hn : h.ss.length ≤ 61 := hw.top
    cases hb : h.ins.getD k false with
    | true =>
      rw [hb] at x0 HP
      have HQ : Hid (pushH h (k : Int) = h) := by unfold Hid pushH; rw [HP.out]; rfl
      clear ha ht hw hL hb f0
      generalize h.ss.length = n at *
      go_enter Try.func9, Try.ntmps9
      go_wp2_with (go_at_call 24; refine HI.out.mono ?_; rintro e w' ⟨rfl, rfl⟩)
      go_ret
      exact ⟨ret_bool (by rw [HP.out]; rfl), ⟨_, by rw [HQ.out]; exact HS.out, Fresh.refl _ _⟩, Chg.refl _ _⟩
    | false =>
      rw [hb] at x0 HP
      have HQ : Hid (pushH h (k : Int) = ⟨h.ss, h.ins.set k true⟩) := by unfold Hid pushH; rw [HP.out]; rfl
      have HM : Hid (((manyH h : Nat) : Int) + 1 = ((manyH (pushH h (k : Int)) : Nat) : Int)) := by
        unfold Hid; rw [HQ.out]; unfold manyH; simp only [count_on hki hb]; omega
      have hA1 := ha.setIn k true hki
      have hA2 := hA1.setMany (((manyH h : Nat) : Int) + 1)
      rw [HM.out] at hA2
      have c2 := hA1.c2
      have f2 := hA1.fr 2
      have hmb : ((manyH h : Nat) : Int) ≤ 100 := by
        have h1 : manyH h ≤ h.ins.length := List.count_le_length
        have h2 := hw.len
        omega
      have hm0 : (0 : Int) ≤ ((manyH h : Nat) : Int) := Int.natCast_nonneg _
      have HW := Lib.hid (hw.push (k : Int))
      have HWL := Lib.hid hw.len
      have hT2 : TellA D (pushH h (k : Int)).ss (pushH h (k : Int)).ins k k k T := by rw [HQ.out]; exact TellA.start ht (fun u hu => leaf_in _ _ _ _ _ hu)
      have hTL := htell_any D k k _ (by rw [HQ.out]; exact hA2) hT2 (by rw [HQ.out]; simpa using hw.len) (by omega) (by omega) (by rw [HQ.out]; show k < h.ss.length; omega) (by rw [HQ.out]; exact hL) (by omega)
      have HTL := Lib.hid hTL
      have HC : Hid (Chg [p, a, b, t] w ((w.setCell ⟨b, k, none⟩ (.bool true)).setCell ⟨p, 2, none⟩ (.int .i64 (((manyH h : Nat) : Int) + 1)))) := ((Chg.refl _ _).setCell (.inl (by simp)) _).setCell (.inl (by simp)) _
      have HL : Hid ((pushH h (k : Int)).ss.length ≤ 2 ^ D) := by unfold Hid; rw [HQ.out]; exact hL
      have HD := Lib.hid hD
      rw [HQ.out] at hT2
      rw [HM.out] at HC
      clear ha ht hw hL hD hb hA1 hA2 hT2 hTL HQ
      generalize h.ss.length = n at *
      generalize ((manyH h : Nat) : Int) = m at *
      go_enter Try.func9, Try.ntmps9
      go_wp2_with (go_at_call 24; refine HI.out.mono ?_; rintro e w' ⟨rfl, rfl⟩)
      rw [HM.out]
      refine HTL.out.mono ?_
      rintro e w' hp
      have HPP := Lib.hid hp
      have he := hp.1
      subst he
      clear hp HTL
      go_wp2_with fail
      go_ret
      exact ⟨ret_bool (by rw [HP.out]; rfl), tell_done HC.out HPP.out HW.out HL.out HD.out⟩

set_option maxRecDepth 8000 in
set_option maxHeartbeats 2000000 in
theorem hpop_any {v : Value} {S : List Nat} {h : Hp} (w : World) (hs : HpS w v S h) (tie : Int) (h1 : -9223372036854775808 ≤ tie) (h2 : tie ≤ 9223372036854775807) :
    Calls Try.prog 11 #[v, .int .i64 tie] w (HPost w v S (popH h tie) (.tuple #[.int .i64 (popV h tie), .bool (popB h)])) := by
  have HS := Lib.hid hs
  obtain ⟨p, a, b, t, ca, cb, ct, T, D, rfl, rfl, ha, ht, hw, hL, hD⟩ := hs
  have c2 := ha.c2
  by_cases hz : bestL h = []
  · have hm : ((manyH h : Nat) : Int) = 0 := by
      have := count_zero.2 ((best_emp hw).1 hz)
      unfold manyH
      rw [this]; rfl
    rw [hm] at c2
    have HQ : Hid (popH h tie = h) := by unfold Hid popH; rw [if_pos hz]
    have HV : Hid (popV h tie = 0) := by unfold Hid popV; rw [if_pos hz]
    have HB : Hid (popB h = false) := by unfold Hid popB; rw [hz]; rfl
    clear ha ht hw hz hm
    go_enter Try.func11, Try.ntmps11
    go_wp2_with fail
    go_ret2
    exact ⟨by rw [HV.out, HB.out]; rfl, ⟨_, by rw [HQ.out]; exact HS.out, Fresh.refl _ _⟩, Chg.refl _ _⟩
  · obtain ⟨k, hk, k1, k2, k3, _⟩ := pop_at hw hz tie
    have HQ : Hid (popH h tie = ⟨h.ss, h.ins.set k false⟩) := by unfold Hid popH; rw [if_neg hz, hk]; rfl
    have HB : Hid (popB h = true) := by unfold Hid popB; simp [hz]
    have hlen : 0 < (bestL h).length := List.length_pos_iff.2 hz
    obtain ⟨q, hq⟩ := Int.eq_ofNat_of_zero_le (Int.emod_nonneg tie (show ((bestL h).length : Int) ≠ 0 by omega))
    have hq2 := Int.emod_lt_of_pos tie (show (0 : Int) < (bestL h).length by omega)
    have HPV : Hid ((bestL h).getD q 0 = (k : Int)) := by
      unfold Hid
      rw [← hk]
      unfold popV
      rw [if_neg hz, hq]; rfl
    have hsm : (bestL h).length ≤ 100 := by
      have : (bestL h).length ≤ h.ss.length := by
        unfold bestL
        rw [(best_of (fun v => (hw.bd v).1) _).lst]
        unfold candL
        rw [List.length_map]
        exact Nat.le_trans (List.length_filter_le _ _) (by simp)
      have := hw.top
      omega
    have HTP := Lib.hid (htop_any D q w ha ht hw hL hD (by omega))
    rw [HPV.out] at HTP
    have HMD := Lib.hid (hmod_any tie ((bestL h).length : Int) w (by omega) (by omega) h1 h2)
    rw [hq] at HMD
    have hpw : 1 ≤ 2 ^ D := Nat.pow_pos (by decide)
    have hTL := ht.len
    obtain ⟨_, x1⟩ := ha.node (i := 1) (by omega)
    rw [(ht.top hw hL).1] at x1
    simp only [Nat.one_mul] at x1
    have hm1 : manyH h = manyH ⟨h.ss, h.ins.set k false⟩ + 1 := (count_off k3).symm
    have hmb : manyH h ≤ 100 := by
      have e1 : manyH h ≤ h.ins.length := List.count_le_length
      have e2 := hw.len
      have e3 := hw.top
      omega
    have hmp : 0 < manyH h := by omega
    have c3 := ha.c3
    rw [hTL] at c3
    have x3 : w.cell? ⟨t, 3, none⟩ = some (.int .i64 ((bestL h).length : Int)) := x1
    have HBL := Lib.hid ha.lt
    have c1 := ha.c1
    rw [hw.len] at c1
    have hki : k < h.ins.length := by rw [hw.len]; exact k2
    have HT2 : Hid (∀ V, Below w.heap.size w V → (V.cell? ⟨p, 1, none⟩ = some (.slice (some ⟨b, 0, none⟩) h.ss.length cb) ∧ V.cell? ⟨b, k, none⟩ = some (.bool true) ∧ V.frozen? ⟨b, k, none⟩ = false) ∧
        ((V.setCell ⟨b, k, none⟩ (.bool false)).cell? ⟨p, 2, none⟩ = some (.int .i64 ((manyH h : Nat) : Int)) ∧ (V.setCell ⟨b, k, none⟩ (.bool false)).frozen? ⟨p, 2, none⟩ = false) ∧
        Calls Try.prog 25 #[.pointer (some ⟨p, 0, none⟩), .int .i64 (k : Int), .int .i64 (k : Int)] ((V.setCell ⟨b, k, none⟩ (.bool false)).setCell ⟨p, 2, none⟩ (.int .i64 (((manyH h : Nat) : Int) - 1))) fun e w' => e = .returned (.tuple #[]) ∧ (∃ S', HpS w' (.pointer (some ⟨p, 0, none⟩)) S' (popH h tie) ∧ Fresh w [p, a, b, t] S') ∧ Chg [p, a, b, t] w w') := by
      intro V hV
      have hA := ha.below hV
      have hA1 := hA.setIn k false hki
      have hA2 := hA1.setMany (((manyH (popH h tie) : Nat) : Int))
      have hme : ((manyH (popH h tie) : Nat) : Int) = ((manyH h : Nat) : Int) - 1 := by rw [HQ.out]; omega
      have e1 := hA.isin hki
      rw [k3] at e1
      refine ⟨⟨by rw [← hw.len]; exact hA.c1, e1, own_frozen hA.rb k⟩, ⟨hA1.c2, hA1.fr 2⟩, ?_⟩
      rw [hme] at hA2
      have hT2 : TellA D (popH h tie).ss (popH h tie).ins k k k T := by rw [HQ.out]; exact TellA.start ht (fun u hu => leaf_in _ _ _ _ _ hu)
      have hLL : (popH h tie).ss.length ≤ 2 ^ D := by rw [HQ.out]; exact hL
      have hTL := htell_any (m := ((manyH (popH h tie) : Nat) : Int)) D k k ((V.setCell ⟨b, k, none⟩ (.bool false)).setCell ⟨p, 2, none⟩ (.int .i64 (((manyH h : Nat) : Int) - 1))) (by rw [hme, HQ.out]; exact hA2) hT2 (by rw [HQ.out]; simpa using hw.len) k1 (by omega) (by rw [HQ.out]; exact k2) hLL (by omega)
      refine hTL.mono fun e w' hp => ⟨hp.1, ?_⟩
      exact tell_done ((((Chg.of_below (S := [p, a, b, t]) hV).setCell (.inl (by simp)) _).setCell (.inl (by simp)) _)) hp (hw.pop tie) hLL hD
    have HV : Hid (popV h tie = (k : Int)) := hk
    have k2' : (k : Int) < (h.ss.length : Int) := by omega
    have hn : h.ss.length ≤ 61 := hw.top
    have hmz : ((manyH h : Nat) : Int) ≠ 0 := by omega
    have hmz2 : (((manyH h : Nat) : Int) == 0) = false := by simpa using hmz
    have hmb2 : ((manyH h : Nat) : Int) ≤ 100 := by omega
    have hmb3 : (0 : Int) < ((manyH h : Nat) : Int) := by omega
    clear ha ht hw hz hTL HQ hm1 hmb hmp hki hk k3 hL HS hq hq2 HPV
    generalize ((manyH h : Nat) : Int) = m at *
    generalize h.ss.length = n at *
    generalize 2 ^ D = W at *
    generalize (bestL h).length = bl at *
    go_enter Try.func11, Try.ntmps11
    go_wp2_with (first
      | (go_at_call 28; refine HMD.out.mono ?_; rintro e w' ⟨rfl, rfl⟩)
      | (go_at_call 27; refine HTP.out.mono ?_; rintro e w3 ⟨rfl, hb3⟩; obtain ⟨⟨e1, e2, e3⟩, ⟨e4, e5⟩, hcl⟩ := HT2.out w3 hb3; have HCL := Lib.hid hcl; clear hcl hb3))
    refine HCL.out.mono ?_
    rintro e w' hp
    have HPP := Lib.hid hp.2
    have he := hp.1
    subst he
    clear hp HCL
    go_wp2_with fail
    go_ret2
    exact ⟨by rw [HV.out, HB.out]; rfl, HPP.out⟩
end Go.Proofs.Yteiidcogjmekhaa
