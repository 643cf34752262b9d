/- The contract of the document's own And: what 'andG' says. Conditions: the graph lies in memory as 'RgM' says; the numbers are 64-bit ints. -/
import Derived.Test.YtmgepagdkfghlaaDoorRgC
import Derived.Deep.AppendLies
import Derived.Deep.Light
namespace Go.Proofs.YtmgepagdkfghlaaDoor
open Go.RowKit

theorem idx_at {l : List (Int × Int)} {x : Int × Int} {k : Nat} (hk : k < l.length) (h : l.getD k (0, 0) = x) (hn : x ∉ l.take k) : x ∈ l ∧ l.idxOf x = k := by
  have hm : l[k] = x := by simpa [List.getD, hk] using h
  have hx : x ∈ l := hm ▸ List.getElem_mem hk
  refine ⟨hx, ?_⟩
  have e : l = l.take k ++ l.drop k := (List.take_append_drop k l).symm
  rw [e, List.idxOf_append, if_neg hn, List.drop_eq_getElem_cons hk, hm, List.idxOf_cons_self, List.length_take]
  omega
/-- Behind the append: the graph with one gate more. -/
theorem RgAt.more {w w1 : World} {v : Value} {S : List Nat} {g : Gr} {p : Nat} {u : Value} (h : RgAt w v S g p u) {x y : Int} {g1 cap : Nat} (hb : Below w.heap.size w w1) (hg : w.heap.size ≤ g1)
    (hown : w1.ownsRow 0 59 2 (.slice (some ⟨g1, 0, none⟩) (g.ands.length + 1) cap) (g.ands.length + 1) (g.ands.flatMap pcells ++ pcells (x, y))) (hl : g.len < 8000) :
    RgAt (w1.setCell ⟨p, 1, none⟩ (.slice (some ⟨g1, 0, none⟩) (g.ands.length + 1) cap)) v [p, g1] ⟨g.n, g.ands ++ [(x, y)], g.bad⟩ p (.slice (some ⟨g1, 0, none⟩) (g.ands.length + 1) cap) := by
  have hp : p < w.heap.size := h.lt p (by rw [h.foot]; simp)
  have kp : ∀ o, w1.cell? ⟨p, o, none⟩ = w.cell? ⟨p, o, none⟩ := fun o => hb.cell (p := ⟨p, o, none⟩) hp
  have ho : ∀ o, o ≠ 1 → (w1.setCell ⟨p, 1, none⟩ (.slice (some ⟨g1, 0, none⟩) (g.ands.length + 1) cap)).cell? ⟨p, o, none⟩ = w.cell? ⟨p, o, none⟩ := fun o hne => (World.cell?_setCell_other (w := w1) (h := fun hh => hne (by injection hh with _ e; exact e.symm)) ..).trans (kp o)
  exact { val := h.val, foot := rfl
          c0 := (ho 0 (by decide)).trans h.c0
          c1 := World.cell?_setCell_same (w := w1) (h := (kp 1).trans h.c1) ..
          c2 := (ho 2 (by decide)).trans h.c2
          fr := fun i => (World.frozen?_setCell _ _ _ _).trans ((hb.frozen (p := ⟨p, i, none⟩) hp).trans (h.fr i))
          row := by
            have := own_chg (S := [p]) hown ((Chg.refl [p] w1).setCell (a := ⟨p, 1, none⟩) (.inl (by simp)) (.slice (some ⟨g1, 0, none⟩) (g.ands.length + 1) cap)) (fun k hk => by
              have : g1 = k := by simpa [Value.ownBlock] using hk
              simp; omega)
            simpa using this
          pu := by simp [Value.ownBlock]; omega
          len := by unfold Gr.len at hl ⊢; simp; omega
          bad := h.bad }

set_option maxRecDepth 8000 in
set_option maxHeartbeats 2000000 in
theorem rand_no {v : Value} {S : List Nat} {g : Gr} (w : World) (h : RgM w v S g) (a b : Int) (ha1 : -9223372036854775808 ≤ a) (ha2 : a ≤ 9223372036854775807) (hb1 : -9223372036854775808 ≤ b) (hb2 : b ≤ 9223372036854775807) (hno : (g.isB a && g.isB b) = false) :
    Calls Tryd.prog 41 #[v, .int .i64 a, .int .i64 b] w (RgPost w v S (g.fail 104, 0)) := by
  have HIA := Lib.hid (rlit_any w h a ha1 ha2)
  have HIB := Lib.hid (fun q => rlit_any (w.drewN q) (h.below (below_drewN (Below.refl _ _) q)) b hb1 hb2)
  have HF := Lib.hid (fun q => rfail_any (w.drewN q) (h.below (below_drewN (Below.refl _ _) q)) 104 (.inr rfl))
  obtain ⟨p, rfl⟩ : ∃ p, v = .pointer p := by obtain ⟨p, u, h⟩ := h; exact ⟨_, h.val⟩
  clear h
  have HNO := Lib.hid hno
  clear hno
  cases hA : g.isB a with
  | true =>
    have HBF := Lib.hid (show g.isB b = false by
      have := HNO.out
      rw [hA, Bool.true_and] at this
      exact this)
    rw [hA] at HIA
    rw [HBF.out] at HIB
    clear hA HBF
    go_enter Tryd.func41, Tryd.ntmps41
    go_wp2_with fail
    refine HIA.out.mono ?_
    rintro e w' ⟨rfl, q, rfl⟩
    go_wp2_with fail
    refine (HIB.out _).mono ?_
    rintro e w' ⟨rfl, q2, rfl⟩
    go_wp2_with fail
    refine (HF.out _).mono ?_
    rintro e w' ⟨rfl, hG, hC⟩
    have HG := Lib.hid (And.intro hG hC)
    clear hG hC
    go_wp2_with fail
    go_ret
    exact ⟨rfl, ⟨S, HG.out.1, Fresh.refl _ _⟩, (chg_drewN _ _).trans HG.out.2 (Fresh.refl _ _)⟩
  | false =>
    rw [hA] at HIA
    clear hA
    go_enter Tryd.func41, Tryd.ntmps41
    go_wp2_with fail
    refine HIA.out.mono ?_
    rintro e w' ⟨rfl, q, rfl⟩
    go_wp2_with fail
    refine (HF.out _).mono ?_
    rintro e w' ⟨rfl, hG, hC⟩
    have HG := Lib.hid (And.intro hG hC)
    clear hG hC
    go_wp2_with fail
    go_ret
    exact ⟨rfl, ⟨S, HG.out.1, Fresh.refl _ _⟩, (chg_drewN _ _).trans HG.out.2 (Fresh.refl _ _)⟩

set_option maxRecDepth 8000 in
set_option maxHeartbeats 4000000 in
theorem rand_yes {v : Value} {S : List Nat} {g : Gr} (w : World) (h : RgM w v S g) (x y : Int) (hxb : g.isB x = true) (hyb : g.isB y = true) (hyx : y ≤ x) (a b : Int) (hab : (x = a ∧ y = b) ∨ (x = b ∧ y = a ∧ y < x)) :
    Calls Tryd.prog 41 #[v, .int .i64 a, .int .i64 b] w (RgPost w v S (andN g x y)) := by
  have hx := (isB_iff g x).1 hxb
  have hy := (isB_iff g y).1 hyb
  have hlen : g.len ≤ 8000 := by obtain ⟨p, u, h⟩ := h; exact h.len
  have hl0 : (0 : Int) ≤ (g.len : Int) := by omega
  have hx64 : x ≤ 20000 := by omega
  have hy64 : y ≤ 20000 := by omega
  have hx0 := hx.1
  have hy0 := hy.1
  have HIX : Hid (∀ q, Calls Tryd.prog 53 #[v, .int .i64 x] (w.drewN q) fun e w' => e = .returned (.bool true) ∧ ∃ n, w' = (w.drewN q).drewN n) := fun q => by
    have := rlit_any (w.drewN q) (h.below (below_drewN (Below.refl _ _) q)) x (by omega) (by omega)
    rw [hxb] at this
    exact this
  have HIY : Hid (∀ q, Calls Tryd.prog 53 #[v, .int .i64 y] (w.drewN q) fun e w' => e = .returned (.bool true) ∧ ∃ n, w' = (w.drewN q).drewN n) := fun q => by
    have := rlit_any (w.drewN q) (h.below (below_drewN (Below.refl _ _) q)) y (by omega) (by omega)
    rw [hyb] at this
    exact this
  have HX0 : Hid (Calls Tryd.prog 53 #[v, .int .i64 x] w fun e w' => e = .returned (.bool true) ∧ ∃ n, w' = w.drewN n) := by
    have := rlit_any w h x (by omega) (by omega)
    rw [hxb] at this
    exact this
  have HY0 : Hid (Calls Tryd.prog 53 #[v, .int .i64 y] w fun e w' => e = .returned (.bool true) ∧ ∃ n, w' = w.drewN n) := by
    have := rlit_any w h y (by omega) (by omega)
    rw [hyb] at this
    exact this
  have HXO := Lib.hid (xor_oneI y hy0 (by omega))
  have HL := Lib.hid (fun q => rlen_any (w.drewN q) (h.below (below_drewN (Below.refl _ _) q)))
  have HF := Lib.hid (fun q => rfail_any (w.drewN q) (h.below (below_drewN (Below.refl _ _) q)) 102 (.inl rfl))
  have HOF := Lib.hid (fun z q w' hw => RgPost.of (w' := w') (z := z) q h hw)
  obtain ⟨p, u, h⟩ := h
  obtain rfl := h.val
  have c0 := h.c0
  have hgn : g.n ≤ 8000 := by unfold Gr.len at hlen; omega
  have hga : g.ands.length ≤ 8000 := by unfold Gr.len at hlen; omega
  have HPR := Lib.hid (own_prow h.row)
  have HPA : Hid (∀ q, Calls Tryd.prog 43 #[u] (w.drewN q) fun e w' => (∃ u', e = .returned u' ∧ w'.ownsRow w.heap.size 59 2 u' g.ands.length (g.ands.flatMap pcells)) ∧ Below w.heap.size w w') := fun q =>
    (pairs_any u g.ands (w.drewN q) ((own_prow h.row).keep (below_drewN (Below.refl _ _) q)) (by omega)).mono fun e w' ⟨⟨u', he, ho⟩, hb⟩ => ⟨⟨u', he, ho⟩, (below_drewN (Below.refl _ w) q).trans hb⟩
  obtain ⟨ao, co, rfl, _, _⟩ := row_shape h.row
  have c1 := h.c1
  have f1 := h.fr 1
  have HMORE := Lib.hid (fun w1 g1 cap hb hg hown hl => h.more (w1 := w1) (x := x) (y := y) (g1 := g1) (cap := cap) hb hg hown hl)
  have hpl : p < w.heap.size := h.lt p (by rw [h.foot]; simp)
  have HPS := Lib.hid (show p ∈ S by rw [h.foot]; simp)
  have HLE : Hid (g.len = g.n + g.ands.length) := rfl
  clear h hx hy hxb hyb
  have HAN : Hid (andN g x y = if y = 0 ∨ x = notI y then (g, 0) else if y = 1 ∨ x = y then (g, x) else if (x, y) ∈ g.ands then (g, g.litOf (x, y)) else if 8000 ≤ g.len then (g.fail 102, 0) else (⟨g.n, g.ands ++ [(x, y)], g.bad⟩, 2 * ((g.len : Int) + 1))) := rfl
  have HTK := Lib.hid (fun k (hk : k < g.ands.length) => take_snocP g.ands k hk)
  have HTE : Hid (g.ands.take g.ands.length = g.ands) := List.take_length
  have HIDX := Lib.hid (fun k (hk : k < g.ands.length) (h : g.ands.getD k (0, 0) = (x, y)) (hn : (x, y) ∉ g.ands.take k) => idx_at hk h hn)
  have HLIT : Hid (g.litOf (x, y) = 2 * ((g.n : Int) + (g.ands.idxOf (x, y) : Int) + 1)) := rfl
  obtain ⟨a0, c00, e0, hr1, hr2, hr3⟩ := HPR.out
  injection e0 with e1 _ e3
  subst e1; subst e3
  have HCE := Lib.hid hr3
  clear HPR hr1 hr2 hr3
  generalize andN g x y = R at *
  generalize hzz : notI y = z at *
  generalize hgg : g.ands.length = ga at *
  have HGG := Lib.hid hgg
  clear hgg hzz
  rcases hab with ⟨rfl, rfl⟩ | ⟨rfl, rfl, hlt⟩
  all_goals
    have hge : ¬ x < y := by omega
    go_enter Tryd.func41, Tryd.ntmps41
    go_wp2_with fail
    first | (with_reducible refine HX0.out.mono ?_) | (with_reducible refine HY0.out.mono ?_)
    rintro e w' ⟨rfl, q, rfl⟩
    go_wp2_with fail
    first | (with_reducible refine (HIX.out _).mono ?_) | (with_reducible refine (HIY.out _).mono ?_)
    rintro e w' ⟨rfl, q2, rfl⟩
    by_cases h1 : y = 0
    · have HR := Lib.hid (show R = (g, 0) by rw [HAN.out, if_pos (.inl h1)])
      have h1b : (y == 0) = true := by simp [h1]
      clear h1
      go_wp2_with fail
      go_ret
      rw [HR.out]
      exact HOF.out _ _ _ rfl
    · have h1b : (y == 0) = false := by simp [h1]
      have H1 := Lib.hid h1
      clear h1
      have hxo := HXO.out
      by_cases h2 : x = z
      · have HR := Lib.hid (show R = (g, 0) by rw [HAN.out, if_pos (.inr h2)])
        have h2b : (x == z) = true := by simp [h2]
        clear h2
        go_wp2_with fail
        go_ret
        rw [HR.out]
        exact HOF.out _ _ _ rfl
      · have h2b : (x == z) = false := by simp [h2]
        have H2 := Lib.hid h2
        clear h2
        by_cases h3 : y = 1 ∨ x = y
        · have HR := Lib.hid (show R = (g, x) by rw [HAN.out, if_neg (by intro h; exact h.elim H1.out H2.out), if_pos h3])
          by_cases h4 : y = 1
          · have h3b : (y == 1) = true := by simp [h4]
            clear h3 h4
            go_wp2_with fail
            go_ret
            rw [HR.out]
            exact HOF.out _ _ _ rfl
          · have h3b : (y == 1) = false := by simp [h4]
            have h4b : (x == y) = true := by simp; exact h3.resolve_left h4
            clear h3 h4
            go_wp2_with fail
            go_ret
            rw [HR.out]
            exact HOF.out _ _ _ rfl
        · have h3b : (y == 1) = false := by simp; exact fun h => h3 (.inl h)
          have h4b : (x == y) = false := by simp; exact fun h => h3 (.inr h)
          have HR1 := Lib.hid (HAN.out.trans ((if_neg (by intro h; exact h.elim H1.out H2.out)).trans (if_neg h3)))
          clear h3
          go_wp2_with fail
          go_loop [8] (fun i => ∃ k : Nat, k ≤ ga ∧ i = .int .i64 k ∧ Hid ((x, y) ∉ g.ands.take k)) (fun i => ga - (intOf i).toNat)
          case atStart => exact ⟨0, Nat.zero_le _, rfl, by simp [Hid]⟩
          case round =>
            obtain ⟨k, hk, rfl, HNI⟩ := hrel
            by_cases hlt : k < ga
            · obtain ⟨vb, vo, ha, hvb, hvc⟩ := HCE.out.resolve_left (by omega)
              subst ha
              obtain ⟨x0, x1⟩ := hvc k hlt
              clear hvc
              have HT := Lib.hid (HTK.out k hlt)
              have HI := Lib.hid (HIDX.out k hlt)
              generalize g.ands.getD k (0, 0) = pk at *
              obtain ⟨r1, r2⟩ := pk
              simp only at x0 x1
              have HNX : Hid ((r1, r2) ≠ (x, y) → (x, y) ∉ g.ands.take (k + 1)) := fun h => by
                rw [HT.out]
                simp only [List.mem_append, List.mem_singleton, not_or]
                exact ⟨HNI.out, fun e => h e.symm⟩
              clear HT
              by_cases e1 : r1 = x
              · subst e1
                by_cases e2 : r2 = y
                · subst e2
                  obtain ⟨hin, hix⟩ := HI.out rfl HNI.out
                  have HR := Lib.hid (HR1.out.trans (if_pos hin))
                  have HV := Lib.hid (show g.litOf (r1, r2) = 2 * ((g.n : Int) + (k : Int) + 1) by rw [HLIT.out, hix])
                  clear hin hix HNX HI
                  generalize hlv : g.litOf (r1, r2) = lv at *
                  clear hlv
                  go_wp2_with fail
                  go_ret
                  rw [HR.out, HV.out]
                  exact HOF.out _ _ _ rfl
                · have e2b : (r2 == y) = false := by simp [e2]
                  have HNE := Lib.hid (HNX.out (fun h => e2 (by injection h)))
                  clear e2 HNX HI
                  go_wp2_with fail
                  go_round
                  case rel => exact ⟨k + 1, by omega, by go_num, HNE.out⟩
                  case measure => simp [intOf]; omega
              · have e1b : (r1 == x) = false := by simp [e1]
                have HNE := Lib.hid (HNX.out (fun h => e1 (by injection h)))
                clear e1 HNX HI
                go_wp2_with fail
                go_round
                case rel => exact ⟨k + 1, by omega, by go_num, HNE.out⟩
                case measure => simp [intOf]; omega
            · have hkn : k = ga := by omega
              have HNA := Lib.hid (show (x, y) ∉ g.ands by
                have := HNI.out
                rw [hkn, HTE.out] at this
                exact this)
              have HR2 := Lib.hid (HR1.out.trans (if_neg HNA.out))
              clear HNI
              subst hkn
              by_cases h6 : 8000 ≤ g.len
              · have HR := Lib.hid (HR2.out.trans (if_pos h6))
                have h6b : decide ((8000 : Int) ≤ (g.len : Int)) = true := decide_eq_true (by omega)
                have h6c : decide (8000 ≤ g.len) = true := decide_eq_true h6
                clear h6 hlt
                go_wp2_with fail
                refine (HL.out _).mono ?_
                rintro e w' ⟨rfl, q3, rfl⟩
                go_wp2_with fail
                refine (HF.out _).mono ?_
                rintro e w' ⟨rfl, hG, hC⟩
                have HG := Lib.hid (And.intro hG hC)
                clear hG hC
                go_wp2_with fail
                go_ret
                rw [HR.out]
                exact ⟨rfl, ⟨S, HG.out.1, Fresh.refl _ _⟩, (chg_drewN _ _).trans HG.out.2 (Fresh.refl _ _)⟩
              · have HR := Lib.hid (HR2.out.trans (if_neg h6))
                have h6b : decide ((8000 : Int) ≤ (g.len : Int)) = false := decide_eq_false (by omega)
                have h6c : decide (8000 ≤ g.len) = false := decide_eq_false h6
                have HL8 : Hid (g.len < 8000) := Nat.lt_of_not_le h6
                clear h6 hlt
                go_wp2_with fail
                refine (HL.out _).mono ?_
                rintro e w' ⟨rfl, q3, rfl⟩
                go_wp2_with fail
                refine (HPA.out _).mono ?_
                rintro e w1 ⟨⟨u1, rfl, hown1⟩, hb1⟩
                have HS1 := Lib.hid hb1.size
                have HB1 := Lib.hid hb1
                clear hb1
                go_wp2_with (at_builtin; refine wpList_appS 22 59 _ 2 16 Tryd.underlying22 infoA rfl (by decide) (by decide) rfl _ _ rfl w1 w.heap.size _ k (g.ands.flatMap pcells) (pcells (x, y)) (pcells_one _) rfl hown1 HS1.out (by omega) _ rfl rfl rfl ?_; intro v' w2 hown2 hap; obtain ⟨g1, cap, rfl, hg1, hg2⟩ := hown2.form (by omega); have hbw2 := HB1.out.trans hap.below; have c1' := (hbw2.cell (p := ⟨p, 1, none⟩) hpl).trans c1; have f1' := (hbw2.frozen (p := ⟨p, 1, none⟩) hpl).trans f1; have HM := Lib.hid (HMORE.out w2 g1 cap hbw2 hg1 (own_base hown2 (Nat.zero_le _)) HL8.out); have HBW := Lib.hid hbw2; have HG1 := Lib.hid hg1; clear hown2 hap hbw2 hg1 hg2)
                have HLZ := Lib.hid (rlen_cells p g.n (k + 1) cap (some ⟨g1, 0, none⟩) (w2.setCell ⟨p, 1, none⟩ (.slice (some ⟨g1, 0, none⟩) (k + 1) cap)) HM.out.c0 (by have := HM.out.c1; exact this) (by have := HL8.out; have := HLE.out; omega))
                have HV := Lib.hid (show 2 * ((g.len : Int) + 1) = 2 * ((g.n + (k + 1) : Nat) : Int) by have := HLE.out; omega)
                have hnv : g.n + (k + 1) ≤ 8000 := by have := HL8.out; have := HLE.out; omega
                generalize g.n + (k + 1) = nv at *
                refine HLZ.out.mono ?_
                rintro e w' ⟨rfl, q4, rfl⟩
                go_wp2_with fail
                go_ret
                rw [HR.out]
                refine ⟨ret_int (by have := HV.out; simp only; omega), ⟨[p, g1], (show RgM _ _ _ _ from ⟨p, _, HM.out⟩).below (below_drewN (Below.refl _ _) _), fun i hi => ?_⟩, ?_⟩
                · simp at hi
                  rcases hi with rfl | rfl
                  · exact .inl HPS.out
                  · exact .inr HG1.out
                · exact ((Chg.of_below HBW.out).setCell (.inl HPS.out) _).trans (T := S) (chg_drewN _ _) (Fresh.refl _ _)
theorem rand_any {v : Value} {S : List Nat} {g : Gr} (w : World) (h : RgM w v S g) (a b : Int) (ha : in64 a) (hb : in64 b) :
    Calls Tryd.prog 41 #[v, .int .i64 a, .int .i64 b] w (RgPost w v S (andG g a b)) := by
  cases hc : (g.isB a && g.isB b) with
  | false =>
    have := rand_no w h a b ha.1 ha.2 hb.1 hb.2 hc
    unfold andG
    rw [if_neg (by simp [hc])]
    exact this
  | true =>
    unfold andG
    rw [if_pos hc]
    rw [Bool.and_eq_true] at hc
    have hm := max_isB g a b hc.1 hc.2
    refine rand_yes w h (max a b) (min a b) hm.1 hm.2 (by omega) a b ?_
    omega
end Go.Proofs.YtmgepagdkfghlaaDoor
