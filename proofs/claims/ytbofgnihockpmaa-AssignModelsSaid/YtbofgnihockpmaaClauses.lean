/- The contract of skolemmake.Clauses, for twelve variables: some clauses of right literals, in memory of the call's own. Conditions: the slice reads as 64-bit ints and is short. -/
import Derived.Test.YtbofgnihockpmaaAsgAll
import Derived.Test.YtbofgnihockpmaaCel
import Derived.Deep.Light
import Derived.Deep.RegionWith
namespace Go.Proofs.Ytbofgnihockpmaa
open Go.RowKit

def Lits12 (xs : List Int) : Prop := ∀ y ∈ xs, 1 ≤ plc y ∧ plc y ≤ 12

/-- While clauses are made: those made already (vs), the one at hand (c). -/
structure ClI (w : World) (B : Nat) (o c : Value) (vs : List Value) (done : List (List Int)) (cur : List Int) : Prop where
  len : vs.length = done.length
  out : w.ownsRow B 26 1 o done.length vs
  each : ∀ j, j < done.length → ∃ v g, vs[j]? = some v ∧ w.ownsRow B 3 1 v (done.getD j []).length ((done.getD j []).map (Value.int .i64)) ∧ v.ownBlock = some g ∧ g < w.heap.size ∧ o.ownBlock ≠ some g ∧ c.ownBlock ≠ some g
  row : w.ownsRow B 3 1 c cur.length (cur.map (Value.int .i64))
  sep : ∀ g, o.ownBlock = some g → c.ownBlock ≠ some g
  l1 : ∀ xs ∈ done, Lits12 xs
  l2 : Lits12 cur

theorem ClI.start (w : World) (B : Nat) : ClI w B (.slice none 0 0) (.slice none 0 0) [] [] [] :=
  ⟨rfl, ⟨rfl, .inl ⟨rfl, rfl⟩⟩, fun j hj => absurd hj (Nat.not_lt_zero _), ⟨rfl, .inl ⟨rfl, rfl⟩⟩, fun g e => (by cases e), fun _ h => (by cases h), fun _ h => (by cases h)⟩
theorem own_lt {w : World} {B : Nat} {e : TypeId} {size : Nat} {v : Value} {n : Nat} {xs : List Value} (h : w.ownsRow B e size v n xs) {g : Nat} (hg : v.ownBlock = some g) : g < w.heap.size := by
  rcases h.2 with ⟨rfl, _⟩ | ⟨g', cap, cur, rfl, _, hh, _⟩
  · cases hg
  · have : g' = g := by simpa [Value.ownBlock] using hg
    subst this
    rcases Nat.lt_or_ge g' w.heap.size with h' | h'
    · exact h'
    · rw [Array.getElem?_eq_none h'] at hh; cases hh

theorem ClI.push {w w' : World} {B : Nat} {o o' c : Value} {vs : List Value} {done : List (List Int)} {cur : List Int} (h : ClI w B o c vs done cur) (hc : cur ≠ []) (ha : App B w w' o o') (ho : w'.ownsRow B 26 1 o' (done.length + 1) (vs ++ [c])) :
    ClI w' B o' (.slice none 0 0) (vs ++ [c]) (done ++ [cur]) [] := by
  have hpos : 0 < cur.length := List.length_pos_iff.2 hc
  obtain ⟨g0, cap0, e0, _, hg0, _⟩ := own_some h.row hpos
  have hcb : c.ownBlock = some g0 := by rw [e0]; rfl
  have hoc : o.ownBlock ≠ some g0 := fun e => h.sep g0 e hcb
  refine ⟨by simp [h.len], by simpa using ho, ?_, ⟨rfl, .inl ⟨rfl, rfl⟩⟩, fun g _ e => (by cases e), ?_, fun _ h => (by cases h)⟩
  · intro j hj
    by_cases hlt : j < done.length
    · obtain ⟨v, g, h1, h2, h3, h4, h5, h6⟩ := h.each j hlt
      have hg : (done ++ [cur]).getD j [] = done.getD j [] := by simp [List.getD, List.getElem?_append_left hlt]
      refine ⟨v, g, by rw [List.getElem?_append_left (by rw [h.len]; exact hlt)]; exact h1, by rw [hg]; exact ha.own h2 (.inr (by rw [h3]; exact fun e => h5 e.symm)), h3, Nat.lt_of_lt_of_le h4 ha.below.size, ha.ne h4 h5, fun e => (by cases e)⟩
    · have hj' : j = done.length := by simp at hj; omega
      subst hj'
      have hg : (done ++ [cur]).getD done.length [] = cur := by simp [List.getD]
      refine ⟨c, g0, by rw [← h.len]; simp, by rw [hg]; exact ha.own h.row (.inr (by rw [hcb]; exact fun e => hoc e.symm)), hcb, Nat.lt_of_lt_of_le hg0 ha.below.size, ha.ne hg0 hoc, fun e => (by cases e)⟩
  · intro xs hx
    rw [List.mem_append] at hx
    rcases hx with hx | hx
    · exact h.l1 xs hx
    · have : xs = cur := by simpa using hx
      subst this; exact h.l2
theorem ClI.add {w w' : World} {B : Nat} {o c c' : Value} {vs : List Value} {done : List (List Int)} {cur : List Int} {y : Int} (h : ClI w B o c vs done cur) (ha : App B w w' c c') (ho : w'.ownsRow B 3 1 c' (cur.length + 1) ((cur ++ [y]).map (Value.int .i64))) (hy : 1 ≤ plc y ∧ plc y ≤ 12) :
    ClI w' B o c' vs done (cur ++ [y]) := by
  refine ⟨h.len, ha.own h.out ?_, ?_, by simpa using ho, ?_, h.l1, ?_⟩
  · cases e : o.ownBlock with
    | none => exact .inl rfl
    | some g => exact .inr fun e' => h.sep g e e'.symm
  · intro j hj
    obtain ⟨v, g, h1, h2, h3, h4, h5, h6⟩ := h.each j hj
    exact ⟨v, g, h1, ha.own h2 (.inr (by rw [h3]; exact fun e => h6 e.symm)), h3, Nat.lt_of_lt_of_le h4 ha.below.size, h5, ha.ne h4 h6⟩
  · intro g e
    exact ha.ne (own_lt h.out e) (h.sep g e)
  · intro z hz
    rw [List.mem_append] at hz
    rcases hz with hz | hz
    · exact h.l2 z hz
    · have : z = y := by simpa using hz
      subst this; exact hy
theorem ClI.rows {w : World} {B : Nat} {o c : Value} {vs : List Value} {done : List (List Int)} {cur : List Int} (h : ClI w B o c vs done cur) : ∃ a cap, o = .slice a done.length cap ∧ RowsAt w a cap done := by
  rcases h.out.2 with ⟨e0, e1⟩ | ⟨g, cap, cl, e0, hb, hg, hn, hm, hs, ht⟩
  · subst e0
    have : done = [] := List.eq_nil_of_length_eq_zero e1
    subst this
    exact ⟨none, 0, rfl, Nat.le_refl _, by unfold maxLen; omega, .inl rfl⟩
  · subst e0
    have hlt : g < w.heap.size := own_lt h.out rfl
    refine ⟨_, cap, rfl, hn, hm, .inr ⟨g, 0, rfl, hlt, fun i hi => ?_⟩⟩
    obtain ⟨v, g', h1, h2, _⟩ := h.each i hi
    refine ⟨v, ?_, own_row h2⟩
    have hget : (cl.toList.take (done.length * 1))[i]? = some v := by rw [ht]; exact h1
    rw [List.getElem?_take, if_pos (by omega)] at hget
    have : cl[i]? = some v := by rw [← hget]; simp
    simp only [World.cell?, hg, Nat.zero_add]
    simpa using this

theorem infoInts : (Try.prog.info? 26).map (fun i => (i.zero, i.size, i.bytes)) = some (some (.slice none 0 0), 1, 24) := by kernel_rfl
set_option maxHeartbeats 400000 in
theorem number_big (n : Int) (w : World) (h1 : -9223372036854775808 ≤ n) (h2 : n ≤ 9223372036854775807) :
    Calls Try.prog 37 #[.int .i64 n, .int .i64 1099511627776] w fun e w' => e = .returned (.int .i64 (n % 1099511627776)) ∧ w = w' := by
  have t1 := Int.tmod_lt_of_pos n (show (0 : Int) < 1099511627776 by omega)
  have t2 : -1099511627776 < n.tmod 1099511627776 := Int.lt_tmod_of_pos n (by omega)
  have t3 : n.tmod 1099511627776 < 0 → n.tmod 1099511627776 + 1099511627776 = n % 1099511627776 := fun h => by
    rw [Int.emod_eq_tmod, if_neg]
    · simp
    · intro h'
      rcases h' with h' | h'
      · have := Int.tmod_nonneg 1099511627776 h'; omega
      · rw [Int.tmod_eq_zero_of_dvd h'] at h; omega
  have t4 : ¬ n.tmod 1099511627776 < 0 → n.tmod 1099511627776 = n % 1099511627776 := fun h => by
    rw [Int.emod_eq_tmod, if_pos]
    · simp
    · by_cases h0 : 0 ≤ n
      · exact .inl h0
      · right
        have hneg := Int.tmod_nonneg (a := -n) 1099511627776 (by omega)
        rw [Int.neg_tmod] at hneg
        have h0' : n.tmod 1099511627776 = 0 := by omega
        exact Int.dvd_of_tmod_eq_zero h0'
  have H3 := Lib.hid t3; clear t3
  have H4 := Lib.hid t4; clear t4
  by_cases hneg : n.tmod 1099511627776 < 0
  · go_enter Try.func37, Try.ntmps37
    go_wp2
    go_ret
    exact ⟨ret_int (H3.out hneg), rfl⟩
  · go_enter Try.func37, Try.ntmps37
    go_wp2
    go_ret
    exact ⟨ret_int (H4.out hneg), rfl⟩

def ClausesPost (w : World) (e : Ending) (w' : World) : Prop :=
  ∃ a cap xss, e = .returned (.slice a (List.length xss) cap) ∧ RowsAt w' a cap xss ∧ (∀ xs ∈ xss, Lits12 xs) ∧ Below w.heap.size w w'
theorem litOf_right (n : Int) : 1 ≤ plc (litOf n 12) ∧ plc (litOf n 12) ≤ 12 := by
  have h := litOf_bd n 12 (by omega)
  have h1 := plc_absI (litOf n 12)
  unfold absI at h1
  split at h1 <;> omega

set_option maxRecDepth 4000 in
set_option maxHeartbeats 4000000 in
theorem clauses_any (a : Option Addr) (c : Nat) (cs : List Int) (w : World) (hv : RowAt w a c cs) (hcs : ∀ y ∈ cs, -9223372036854775808 ≤ y ∧ y ≤ 9223372036854775807) (hn : cs.length ≤ 60) :
    Calls Try.prog 29 #[.slice a cs.length c, .int .i64 12] w (ClausesPost w) := by
  obtain ⟨hvc, hcm, hv⟩ := hv
  unfold maxLen at hcm
  have HX := Lib.hid hv; clear hv
  have HC := Lib.hid (fun k => show -9223372036854775808 ≤ cs.getD k 0 ∧ cs.getD k 0 ≤ 9223372036854775807 by
    by_cases hk : k < cs.length
    · have := hcs _ (List.getElem_mem hk); simpa [List.getD, hk] using this
    · simp [List.getD, show cs.length ≤ k by omega])
  clear hcs
  generalize cs.length = n at *
  go_enter Try.func29, Try.ntmps29
  go_wp2_with fail
  go_loopw [5, 6, 7] (fun o c i wr => ∃ (k : Nat) (vs : List Value) (dn : List (List Int)) (cur : List Int), k ≤ n ∧ i = .int .i64 k ∧ ClI wr w.heap.size o c vs dn cur ∧ Below w.heap.size w wr ∧ dn.length ≤ k ∧ cur.length ≤ k) (fun _ _ i _ => n - (intOf i).toNat)
  case atStart => exact ⟨0, _, _, _, Nat.zero_le _, rfl, ClI.start w _, Below.refl _ _, Nat.le_refl _, Nat.le_refl _⟩
  case round =>
    obtain ⟨k, vs, dn, cur, hk, rfl, hI, hbr, hl1, hl2⟩ := hrel
    have hownc := hI.row
    obtain ⟨ac, capc, rfl, hcc1, hcc2⟩ := own_shape hI.row
    unfold maxLen at hcc2
    by_cases hlt : k < n
    · obtain ⟨b, off, ha, hb, hx⟩ := HX.out.resolve_left (by omega)
      subst ha
      have HG := Lib.hid (fun W (h : Below w.heap.size w W) => (h.cell (p := ⟨b, off + k, none⟩) hb).trans (hx k hlt))
      have hbd := HC.out k
      clear hx
      generalize cs.getD k 0 = z at *
      obtain ⟨hz1, hz2⟩ := hbd
      have g1 := HG.out _ hbr
      have N7 := Lib.hid (fun W => number_any z 7 W (by omega) (by omega) hz1 hz2)
      have NB := Lib.hid (fun W => number_big z W hz1 hz2)
      have hx1 := Int.emod_nonneg z (show (1099511627776 : Int) ≠ 0 by omega)
      have hx2 := Int.emod_lt_of_pos z (show (0 : Int) < 1099511627776 by omega)
      have hr1 := Int.emod_nonneg z (show (7 : Int) ≠ 0 by omega)
      generalize z % 7 = r at *
      generalize z % 1099511627776 = x at *
      have LT := Lib.hid (fun (y : Int) W (h1 : -9223372036854775808 ≤ y) (h2 : y ≤ 9223372036854775807) => lit_any y 12 W (by omega) (by omega) h1 h2)
      have HBR := Lib.hid hbr
      clear hbr
      have hd1 := Int.tdiv_nonneg hx1 (show (0 : Int) ≤ 7 by omega)
      have hd2 := Int.tdiv_le_self 7 hx1
      have hl3 : cur = [] ↔ cur.length = 0 := List.length_eq_zero_iff.symm
      by_cases hr0 : r = 0
      · subst hr0
        by_cases hc0 : cur.length = 0
        · generalize hcl : cur.length = cl at *
          subst hc0
          have HCL := Lib.hid hcl
          clear hl3 hcl
          go_wp2_with (first
            | (go_at_call_of 37 (Value.int IntKind.i64 (7 : Int)); refine (N7.out _).mono ?_; rintro e w' ⟨rfl, rfl⟩)
            | (go_at_call 37; refine (NB.out _).mono ?_; rintro e w' ⟨rfl, rfl⟩)
            | (go_at_call 30; refine (LT.out _ _ (by omega) (by omega)).mono ?_; rintro e w' ⟨rfl, rfl⟩)
            | (at_builtin; refine wpList_app1 rfl _ _ rfl wr w.heap.size _ _ _ _ hownc HBR.out.size (by omega) rfl rfl ?_; intro v' w2 hown2 hap))
          go_roundw
          case rel => exact ⟨k + 1, vs, dn, cur ++ [_], by omega, by go_num, hI.add hap (by rw [HCL.out]; exact hown2) (litOf_right _), HBR.out.trans hap.below, by omega, by rw [List.length_append, HCL.out, List.length_singleton]; omega⟩
          case measure => go_light; simp [intOf]; omega
        · have hne : cur ≠ [] := fun e => hc0 (hl3.1 e)
          clear hl3
          generalize hcl : cur.length = cl at *
          have HCL := Lib.hid hcl
          clear hcl
          go_wp2_with (first
            | (go_at_call_of 37 (Value.int IntKind.i64 (7 : Int)); refine (N7.out _).mono ?_; rintro e w' ⟨rfl, rfl⟩)
            | (go_at_call 37; refine (NB.out _).mono ?_; rintro e w' ⟨rfl, rfl⟩)
            | (go_at_call 30; refine (LT.out _ _ (by omega) (by omega)).mono ?_; rintro e w' ⟨rfl, rfl⟩)
            | (at_builtin; refine wpList_appV 23 26 (.slice none 0 0) 24 Try.underlying23 infoInts rfl (by decide) rfl _ _ rfl wr w.heap.size _ _ _ _ rfl hI.out HBR.out.size (by omega) _ rfl rfl rfl ?_; intro o' w2 ho2 hap2; have hI2 := hI.push hne hap2 ho2; have HB2 := Lib.hid (HBR.out.trans hap2.below); have g2 := HG.out _ HB2.out)
            | (at_builtin; refine wpList_app1 rfl _ _ rfl w2 w.heap.size _ _ _ _ hI2.row HB2.out.size (by simp) rfl rfl ?_; intro v' w3 hown3 hap3))
          go_roundw
          case rel => exact ⟨k + 1, _, _, [] ++ [_], by omega, by go_num, hI2.add hap3 hown3 (litOf_right _), HB2.out.trans hap3.below, by simp; omega, by simp⟩
          case measure => go_light; simp [intOf]; omega
      · have hr0b : (r == 0) = false := by simp [hr0]
        by_cases hc5 : 5 ≤ cur.length
        · have hne : cur ≠ [] := fun e => by have := hl3.1 e; omega
          clear hl3 hr0
          generalize hcl : cur.length = cl at *
          have HCL := Lib.hid hcl
          clear hcl
          go_wp2_with (first
            | (go_at_call_of 37 (Value.int IntKind.i64 (7 : Int)); refine (N7.out _).mono ?_; rintro e w' ⟨rfl, rfl⟩)
            | (go_at_call 37; refine (NB.out _).mono ?_; rintro e w' ⟨rfl, rfl⟩)
            | (go_at_call 30; refine (LT.out _ _ (by omega) (by omega)).mono ?_; rintro e w' ⟨rfl, rfl⟩)
            | (at_builtin; refine wpList_appV 23 26 (.slice none 0 0) 24 Try.underlying23 infoInts rfl (by decide) rfl _ _ rfl wr w.heap.size _ _ _ _ rfl hI.out HBR.out.size (by omega) _ rfl rfl rfl ?_; intro o' w2 ho2 hap2; have hI2 := hI.push hne hap2 ho2; have HB2 := Lib.hid (HBR.out.trans hap2.below); have g2 := HG.out _ HB2.out)
            | (at_builtin; refine wpList_app1 rfl _ _ rfl w2 w.heap.size _ _ _ _ hI2.row HB2.out.size (by simp) rfl rfl ?_; intro v' w3 hown3 hap3))
          go_roundw
          case rel => exact ⟨k + 1, _, _, [] ++ [_], by omega, by go_num, hI2.add hap3 hown3 (litOf_right _), HB2.out.trans hap3.below, by simp; omega, by simp⟩
          case measure => go_light; simp [intOf]; omega
        · clear hl3 hr0
          generalize hcl : cur.length = cl at *
          have HCL := Lib.hid hcl
          clear hcl
          go_wp2_with (first
            | (go_at_call_of 37 (Value.int IntKind.i64 (7 : Int)); refine (N7.out _).mono ?_; rintro e w' ⟨rfl, rfl⟩)
            | (go_at_call 37; refine (NB.out _).mono ?_; rintro e w' ⟨rfl, rfl⟩)
            | (go_at_call 30; refine (LT.out _ _ (by omega) (by omega)).mono ?_; rintro e w' ⟨rfl, rfl⟩)
            | (at_builtin; refine wpList_app1 rfl _ _ rfl wr w.heap.size _ _ _ _ hownc HBR.out.size (by omega) rfl rfl ?_; intro v' w2 hown2 hap))
          go_roundw
          case rel => exact ⟨k + 1, vs, dn, cur ++ [_], by omega, by go_num, hI.add hap (by rw [HCL.out]; exact hown2) (litOf_right _), HBR.out.trans hap.below, by omega, by rw [List.length_append, HCL.out, List.length_singleton]; omega⟩
          case measure => go_light; simp [intOf]; omega
    · by_cases hc0 : cur.length = 0
      · obtain ⟨ao, capo, rfl, hrows⟩ := hI.rows
        have HRW := Lib.hid hrows
        have HL1 := Lib.hid hI.l1
        clear hrows hI hownc
        generalize cur.length = cl at *
        subst hc0
        go_wp2_with fail
        go_ret
        exact ⟨_, _, _, rfl, HRW.out, HL1.out, hbr⟩
      · have hne : cur ≠ [] := fun e => hc0 (by rw [e]; rfl)
        have HBR := Lib.hid hbr
        clear hbr
        generalize hcl : cur.length = cl at *
        have HCL := Lib.hid hcl
        clear hcl
        go_wp2_with (at_builtin; refine wpList_appV 23 26 (.slice none 0 0) 24 Try.underlying23 infoInts rfl (by decide) rfl _ _ rfl wr w.heap.size _ _ _ _ rfl hI.out HBR.out.size (by omega) _ rfl rfl rfl ?_; intro o' w2 ho2 hap2; have hI2 := hI.push hne hap2 ho2; have HB2 := Lib.hid (HBR.out.trans hap2.below); obtain ⟨ao, capo, rfl, hrows⟩ := hI2.rows)
        go_ret
        exact ⟨ao, capo, dn ++ [cur], by rw [List.length_append]; rfl, hrows, hI2.l1, HB2.out⟩
end Go.Proofs.Ytbofgnihockpmaa
