/- Contracts of heap's Bump, Halve. Conditions: the heap lies in memory as 'HpS' says; the numbers are 64-bit ints. -/
import Derived.Test.YteiidcogjmekhaaHpU
namespace Go.Proofs.Yteiidcogjmekhaa
open Go.RowKit

/-- The load of an int that turns within its region. -/
theorem step_ldI {ops : Array Oper} {o : Oper} {a : Act} {K : Act → World → Prop} {Q : Exit → Act → World → Prop} {EE : Prop} (t : Nat) (ld : Op) (hld : ld = Op.load 3 (Operand.tmp t)) (hgd : o.guard = none) (ho : o.op = ld) (w : World) (b i : Nat) (v : Value) (hx : a.eval (Operand.tmp t) = .pointer (some ⟨b, i, none⟩)) (hc : w.cell? ⟨b, i, none⟩ = some v) (h : K (a.put o.dst v) w) :
    if Region.wanted o (yielded ops a.tmps) = true then Oper.wp Try.prog o a w K Q else EE := by
  rw [if_pos (by simp [Region.wanted, hgd])]
  have hrun : (loadVar 3 ⟨b, i, none⟩).run Try.prog w = .ok v w := by
    simp [loadVar, isAgg, run_underlying Try.underlying3, hc, go_sem]
  have ho' := ho.trans hld
  unfold Oper.wp execOp
  simp only [ho', hx, Instr.loadAt, Instr.sureAddr, Sem.run_bind, Sem.run_pure, Result.andThen_ok, hrun]
  exact h
def ldB : Op := Op.load 3 (Operand.tmp 21)
theorem ldB_eq : ldB = Op.load 3 (Operand.tmp 21) := rfl

theorem bump_cut (s x : Int) (h : 0 ≤ s ∧ s ≤ 1099511627776) : min (max (s + min (max x (-1099511627776)) 1099511627776) 0) 1099511627776 = bumpI s x := by unfold bumpI; omega

set_option maxRecDepth 8000 in
set_option maxHeartbeats 2000000 in
theorem hbump_any {v : Value} {S : List Nat} {h : Hp} (w : World) (hs : HpS w v S h) (x y : Int) (h1 : -9223372036854775808 ≤ y) (h2 : y ≤ 9223372036854775807) :
    Calls Try.prog 13 #[v, .int .i64 x, .int .i64 y] w (HPost w v S (bumpH h x y) (.int .i64 (bumpA h x y))) := by
  have HS := Lib.hid hs
  obtain ⟨p, a, b, t, ca, cb, ct, T, D, rfl, rfl, ha, ht, hw, hL, hD⟩ := hs
  have HI := Lib.hid (his_any (n := h.ss.length) x w ha.c0)
  have c0 := ha.c0
  cases hi : isN h.ss.length x with
  | false =>
    have hi' : isH h x = false := hi
    rw [hi] at HI
    have HQ : Hid (bumpH h x y = h) := by unfold Hid bumpH; rw [hi']; rfl
    have HV : Hid (bumpA h x y = 0) := by unfold Hid bumpA; rw [hi']; rfl
    clear ha ht hw hi hi'
    go_enter Try.func13, Try.ntmps13
    go_wp2_with (go_at_call 24; refine HI.out.mono ?_; rintro e w' ⟨rfl, rfl⟩)
    go_ret
    exact ⟨ret_int (by rw [HV.out]), ⟨_, by rw [HQ.out]; exact HS.out, Fresh.refl _ _⟩, Chg.refl _ _⟩
  | true =>
    have hi' : isH h x = true := hi
    rw [hi] at HI
    rw [isN_iff] at hi
    obtain ⟨k, rfl⟩ := Int.eq_ofNat_of_zero_le (show 0 ≤ x by omega)
    obtain ⟨k1, k2⟩ := hi
    have HQ : Hid (bumpH h (k : Int) y = ⟨h.ss.set k (bumpI (h.ss.getD k 0) y), h.ins⟩) := by unfold Hid bumpH; rw [hi']; rfl
    have HV : Hid (bumpA h (k : Int) y = bumpI (h.ss.getD k 0) y) := by unfold Hid bumpA; rw [hi']; rfl
    have hkl : k < h.ss.length := by omega
    have x0 := ha.score hkl
    have f0 := own_frozen ha.ra k
    have hsb := hw.bd k
    have HCT1 := Lib.hid (fun V => hcut_any y (-1099511627776) V (by omega) h1 h2 (by omega))
    have hy1 : -1099511627776 ≤ min (max y (-1099511627776)) 1099511627776 ∧ min (max y (-1099511627776)) 1099511627776 ≤ 1099511627776 := by omega
    have HCT2 := Lib.hid (fun V => hcut_any (h.ss.getD k 0 + min (max y (-1099511627776)) 1099511627776) 0 V (by omega) (by omega) (by omega) (by omega))
    rw [bump_cut _ _ hsb] at HCT2
    have hbb := bumpI_bd (h.ss.getD k 0) y
    have hA1 := ha.setScore k (bumpI (h.ss.getD k 0) y) hkl
    have hT2 : TellA D (bumpH h (k : Int) y).ss (bumpH h (k : Int) y).ins k k k T := by rw [HQ.out]; exact TellA.start ht (fun u hu => leaf_score _ _ _ _ _ hu)
    have hLL : (bumpH h (k : Int) y).ss.length ≤ 2 ^ D := by rw [HQ.out]; simpa using hL
    have HME : Hid (manyH (bumpH h (k : Int) y) = manyH h) := by unfold Hid; rw [HQ.out]; rfl
    have HT2 : Hid (∀ V, Below w.heap.size w V → V.cell? ⟨a, k, none⟩ = some (.int .i64 (h.ss.getD k 0)) ∧ V.frozen? ⟨a, k, none⟩ = false ∧ (V.cell? ⟨p, 0, none⟩ = some (.slice (some ⟨a, 0, none⟩) h.ss.length ca)) ∧ ((V.setCell ⟨a, k, none⟩ (.int .i64 (bumpI (h.ss.getD k 0) y))).cell? ⟨p, 0, none⟩ = some (.slice (some ⟨a, 0, none⟩) h.ss.length ca)) ∧
        Calls Try.prog 25 #[.pointer (some ⟨p, 0, none⟩), .int .i64 (k : Int), .int .i64 (k : Int)] (V.setCell ⟨a, k, none⟩ (.int .i64 (bumpI (h.ss.getD k 0) y))) fun e w' => e = .returned (.tuple #[]) ∧ (w'.cell? ⟨p, 0, none⟩ = some (.slice (some ⟨a, 0, none⟩) h.ss.length ca) ∧ w'.cell? ⟨a, k, none⟩ = some (.int .i64 (bumpI (h.ss.getD k 0) y))) ∧ (∃ S', HpS w' (.pointer (some ⟨p, 0, none⟩)) S' (bumpH h (k : Int) y) ∧ Fresh w [p, a, b, t] S') ∧ Chg [p, a, b, t] w w') := by
      intro V hV
      have hA := ha.below hV
      have hA1 := hA.setScore k (bumpI (h.ss.getD k 0) y) hkl
      have hc0 := hA1.c0
      rw [List.length_set] at hc0
      refine ⟨hA.score hkl, own_frozen hA.ra k, hA.c0, hc0, ?_⟩
      have hTL := htell_any (m := ((manyH (bumpH h (k : Int) y) : Nat) : Int)) D k k (V.setCell ⟨a, k, none⟩ (.int .i64 (bumpI (h.ss.getD k 0) y))) (by rw [HME.out, HQ.out]; exact hA1) hT2 (by rw [HQ.out]; simpa using hw.len) (by omega) (by omega) (by rw [HQ.out]; simpa using hkl) hLL (by omega)
      refine hTL.mono fun e w' hp => ⟨hp.1, ?_, ?_⟩
      · obtain ⟨_, ⟨T', hA', _⟩, _⟩ := hp
        rw [HQ.out] at hA'
        have e1 := hA'.c0
        have e2 := hA'.score (i := k) (by simpa using hkl)
        rw [List.length_set] at e1
        rw [getD_setI, if_pos ⟨rfl, hkl⟩] at e2
        exact ⟨e1, e2⟩
      · exact tell_done ((Chg.of_below (S := [p, a, b, t]) hV).setCell (.inl (by simp)) _) hp (hw.bump _ _) hLL hD
    have hn : h.ss.length ≤ 61 := hw.top
    obtain ⟨hsb1, hsb2⟩ := hsb
    obtain ⟨hy1, hy2⟩ := hy1
    clear ha ht hw hL HS hi' HQ hbb hA1 hT2 hLL HME hD
    generalize hbi : bumpI (h.ss.getD k 0) y = z at *
    generalize h.ss.getD k 0 = s at *
    generalize hcy : min (max y (-1099511627776)) 1099511627776 = cy at *
    clear hbi hcy
    generalize h.ss.length = n at *
    have w1 : IntKind.i64.wrap (s + cy) = s + cy := IntWalk.i64_in _ (by omega)
    have HW0 := Lib.hid (HT2.out w (Below.refl _ _))
    have HW1 := Lib.hid (HT2.out w.drew (Below.refl _ _).drew)
    have k0 : (0 : Int) ≤ (k : Int) := by omega
    go_enter Try.func13, Try.ntmps13
    go_wp2_with (go_at_call 24; refine HI.out.mono ?_; rintro e w' ⟨rfl, rfl⟩)
    rw [← ldB_eq]
    have hld := ldB_eq
    have x1 := HW1.out.1
    have g1 := HW1.out.2.1
    have P0 := Lib.hid HW0.out.2.2.1
    have P1 := Lib.hid HW1.out.2.2.1
    have P2 := Lib.hid HW0.out.2.2.2.1
    have P3 := Lib.hid HW1.out.2.2.2.1
    go_region_held3 (fun V => V.cell? ⟨p, 0, none⟩ = some (.slice (some ⟨a, 0, none⟩) n ca)) (first | (with_reducible exact P0.out) | (with_reducible exact P1.out) | (with_reducible exact P2.out) | (with_reducible exact P3.out) | exact P1.out | exact P3.out) (first
      | (refine step_ldI 21 ldB ldB_eq rfl rfl _ a k (.int .i64 s) rfl (by first | exact x0 | exact x1) ?_)
      | (go_simp; go_at_call 29; first | (refine (HCT1.out _).mono ?_; rintro e w' ⟨rfl, rfl⟩) | (refine (HCT2.out _).mono ?_; rintro e w' ⟨rfl, rfl⟩)))
    all_goals
      have hcl := HW1.out.2.2.2.2
      have hse : w.drew.setCell ⟨a, k, none⟩ (.int .i64 z) = (w.setCell ⟨a, k, none⟩ (.int .i64 z)).drew := rfl
      rw [hse] at hcl
      have HCL := Lib.hid hcl
      clear hcl hse hld x0 x1 g1 f0 c0 P0 P1 P2 P3 HW0 HW1 HT2 HI HCT1 HCT2
      generalize (w.setCell ⟨a, k, none⟩ (.int .i64 z)).drew = w5 at *
      go_wp2_with fail
      refine HCL.out.mono ?_
      rintro e w' hp
      have HPP := Lib.hid hp.2.2
      obtain ⟨e1, e2⟩ := hp.2.1
      have he := hp.1
      subst he
      clear hp HCL
      go_wp2_with fail
      go_ret
      exact ⟨ret_int (by rw [HV.out]), HPP.out⟩

/-- Behind k rounds of Halve: the first k scores are halved. -/
def halfK (ss : List Int) (k : Nat) : List Int := (ss.take k).map (· / 2) ++ ss.drop k
theorem halfK_zero (ss : List Int) : halfK ss 0 = ss := by simp [halfK]
theorem halfK_all (ss : List Int) : halfK ss ss.length = ss.map (· / 2) := by simp [halfK]
theorem halfK_len (ss : List Int) (k : Nat) : (halfK ss k).length = ss.length := by simp [halfK]; omega
theorem halfK_get (ss : List Int) (k : Nat) : (halfK ss k).getD k 0 = ss.getD k 0 := by
  unfold halfK
  simp only [List.getD, List.getElem?_append, List.length_map, List.length_take]
  by_cases h : k < ss.length
  · rw [if_neg (by omega), show min k ss.length = k by omega, Nat.sub_self, List.getElem?_drop, Nat.add_zero]
  · rw [if_neg (by omega), List.getElem?_drop, List.getElem?_eq_none (show ss.length ≤ _ by omega), List.getElem?_eq_none (show ss.length ≤ k by omega)]
theorem halfK_set (ss : List Int) (k : Nat) (h : k < ss.length) : (halfK ss k).set k (ss.getD k 0 / 2) = halfK ss (k + 1) := by
  unfold halfK
  rw [List.set_append, if_neg (by simp; omega), List.take_succ_eq_append_getElem h, List.map_append, List.append_assoc]
  congr 1
  have e : k - (List.map (· / 2) (List.take k ss)).length = 0 := by simp; omega
  have g : ss.getD k 0 = ss[k] := by simp [List.getD, h]
  rw [e, List.drop_eq_getElem_cons h, g]
  rfl
theorem halfK_one (ss : List Int) (h : ss.getD 0 0 = 0) : halfK ss 1 = ss := by
  match ss, h with
  | [], _ => rfl
  | x :: ss, h =>
    have : x = 0 := by simpa using h
    subst this
    rfl

set_option maxRecDepth 8000 in
set_option maxHeartbeats 2000000 in
theorem hhalve_any {v : Value} {S : List Nat} {h : Hp} (w : World) (hs : HpS w v S h) :
    Calls Try.prog 15 #[v] w (HPost w v S (halveH h) (.tuple #[])) := by
  obtain ⟨p, a, b, t, ca, cb, ct, T, D, rfl, rfl, ha, ht, hw, hL, hD⟩ := hs
  have HA := Lib.hid ha
  have HT := Lib.hid ht
  have HWF := Lib.hid hw
  have HBD := Lib.hid hw.bd
  have c0 := ha.c0
  have hn := hw.top
  have hpos := hw.pos
  generalize hN : h.ss.length = n at *
  have HN := Lib.hid hN
  clear ha ht hw hN
  go_enter Try.func15, Try.ntmps15
  go_wp2_with fail
  clear c0
  go_loopw [2, 8] (fun _ i wr => ∃ k : Nat, k ≤ n ∧ i = .int .i64 (k : Int) ∧ HpAt wr p a b t ca cb ct (halfK h.ss k) h.ins ((manyH h : Nat) : Int) T ∧ Chg [p, a, b, t] w wr) (fun _ i _ => n - (intOf i).toNat)
  case atStart => exact ⟨0, Nat.zero_le _, rfl, by rw [halfK_zero]; exact HA.out, Chg.refl _ _⟩
  case round =>
    obtain ⟨k, hk, rfl, h3, hc⟩ := hrel
    have HC := Lib.hid hc
    have H3 := Lib.hid h3
    have c0 := h3.c0
    rw [halfK_len, HN.out] at c0
    clear HA hc
    by_cases hlt : k < n
    · have x0 := h3.score (i := k) (by rw [halfK_len, HN.out]; exact hlt)
      rw [halfK_get] at x0
      have f0 := own_frozen h3.ra k
      have h4 := h3.setScore k (h.ss.getD k 0 / 2) (by rw [halfK_len, HN.out]; exact hlt)
      rw [halfK_set _ _ (by rw [HN.out]; exact hlt)] at h4
      have H4 := Lib.hid h4
      obtain ⟨s1, s2⟩ := HBD.out k
      clear h3 h4 H3
      generalize h.ss.getD k 0 = s at *
      go_wp2_with fail
      go_roundw
      case rel => exact ⟨k + 1, by omega, by go_num, H4.out, HC.out.setCell (.inl (by simp)) _⟩
      case measure => go_light; simp [intOf]; omega
    · have hkn : k = n := by omega
      have hA := h3
      rw [hkn, ← HN.out, halfK_all] at hA
      have HQ : Hid (halveH h = ⟨h.ss.map (· / 2), h.ins⟩) := rfl
      have HW2 := Lib.hid HWF.out.halve
      have hleaf : ∀ u, u < 1 ∨ n - 1 < u → leafI (halveH h).ss (halveH h).ins u = leafI h.ss h.ins u := fun u hu => by
        show leafI (h.ss.map (· / 2)) h.ins u = _
        unfold leafI
        rcases hu with hu | hu
        · rw [show u = 0 by omega, HWF.out.i0]; rfl
        · rw [show h.ins.getD u false = false by simp [List.getD, List.getElem?_eq_none (show h.ins.length ≤ u by rw [HWF.out.len, HN.out]; omega)]]; rfl
      have hLn : (halveH h).ss.length = n := by show (h.ss.map (· / 2)).length = n; rw [List.length_map, HN.out]
      have hTL := htell_any (m := ((manyH (halveH h) : Nat) : Int)) D 1 (n - 1) wr hA (TellA.start HT.out hleaf) (by rw [List.length_map]; exact HWF.out.len) (Nat.le_refl _) (by omega) (by rw [List.length_map, HN.out]; omega) (by rw [List.length_map, HN.out]; exact hL) (by omega)
      rw [show ((1 : Nat) : Int) = 1 from rfl, show ((n - 1 : Nat) : Int) = (n : Int) - 1 by omega] at hTL
      have HTL := Lib.hid hTL
      have hLL : (halveH h).ss.length ≤ 2 ^ D := by rw [hLn]; exact hL
      have HD := Lib.hid (And.intro hLL hD)
      have hdd : decide ((k : Int) < (n : Int)) = false := decide_eq_false (by omega)
      have hdd2 : decide (k < n) = false := decide_eq_false (by omega)
      clear h3 hA hTL hleaf hkn hLn hLL hL hD H3
      go_wp2_with fail
      refine HTL.out.mono ?_
      rintro e w' hp
      have HP := Lib.hid hp
      have he := hp.1
      subst he
      clear hp HTL
      go_wp2_with fail
      (try simp only [Exit.inBlock, Exit.then]); refine bodyPost_end (results_none rfl _ _ _) rfl ?_
      exact ⟨rfl, tell_done HC.out HP.out HW2.out HD.out.1 HD.out.2⟩
end Go.Proofs.Yteiidcogjmekhaa
