/- The contract of the document's Base.Add of a clause whose literals are right: the base has it too. Conditions: the rows lie in blocks ahead of the base's own; at most 900 of them. -/
import Derived.Test.YtjlmooimdogmjaaLg42
import Derived.Test.YtjlmooimdogmjaaLg35
import Derived.Test.YtjlmooimdogmjaaLg40
set_option linter.unusedVariables false
set_option linter.unusedSimpArgs false
set_option linter.unusedVariables false
set_option linter.unusedSimpArgs false
namespace Go.Proofs.Ytjlmooimdogmjaa
open Go.RowKit

theorem rowsT_vals {w : World} {T : Nat → Prop} {a : Option Addr} {n cap : Nat} {xss : List (List Int)} (h : RowsT w T (.slice a n cap) xss) : ∃ us : List Value, us.length = xss.length ∧ n = xss.length ∧ HRow w (.slice a n cap) us ∧ (∀ u ∈ us, IsS u) ∧ ∀ i, i < xss.length → RowT w T (us.getD i nilSl) (xss.getD i []) := by
  obtain ⟨a', c', e, h1, h2, h3⟩ := h
  injection e with e1 e2 e3
  subst e1; subst e3
  rcases h3 with h0 | ⟨b, off, ha, hb, _, h4⟩
  · refine ⟨[], by simp [h0], e2, ⟨a, cap, by rw [e2, h0]; rfl, by simp, h2, .inl rfl⟩, by simp, fun i hi => by omega⟩
  · have hl : ((List.range xss.length).map fun i => (w.cell? ⟨b, off + i, none⟩).getD nilSl).length = xss.length := by simp
    have hg : ∀ i, i < xss.length → ((List.range xss.length).map fun i => (w.cell? ⟨b, off + i, none⟩).getD nilSl).getD i nilSl = (w.cell? ⟨b, off + i, none⟩).getD nilSl := fun i hi => by simp [List.getD, hi]
    have hr : ∀ i, i < xss.length → w.cell? ⟨b, off + i, none⟩ = some ((w.cell? ⟨b, off + i, none⟩).getD nilSl) ∧ RowT w T ((w.cell? ⟨b, off + i, none⟩).getD nilSl) (xss.getD i []) := fun i hi => by
      obtain ⟨u, k1, k2⟩ := h4 i hi
      rw [k1]
      exact ⟨rfl, k2⟩
    refine ⟨_, hl, e2, ⟨a, cap, by rw [e2, hl], by rw [hl]; exact h1, h2, .inr ⟨b, off, ha, hb, fun j hj => ?_⟩⟩, fun u hu => ?_, fun i hi => by rw [hg i hi]; exact (hr i hi).2⟩
    · rw [hl] at hj
      rw [hg j hj]
      exact (hr j hj).1
    · obtain ⟨i, hi, rfl⟩ := List.mem_map.1 hu
      obtain ⟨a2, c2, e, _⟩ := (hr i (List.mem_range.1 hi)).2
      exact ⟨_, _, _, e⟩
theorem rowsAt_vals {w : World} {a : Option Addr} {n cap : Nat} {us : List Value} {xss : List (List Int)} (h : HRow w (.slice a n cap) us) (hl : us.length = xss.length) (hr : ∀ i, i < xss.length → Row w (us.getD i nilSl) (xss.getD i [])) : n = xss.length ∧ RowsAt w a cap xss := by
  obtain ⟨a', c', e, h1, h2, h3⟩ := h
  injection e with e1 e2 e3
  subst e1; subst e3
  rw [hl] at e2 h1 h3
  exact ⟨e2, h1, h2, h3.imp id fun ⟨b, off, k1, k2, k3⟩ => ⟨b, off, k1, k2, fun i hi => ⟨_, k3 i hi, hr i hi⟩⟩⟩

theorem RowT.subU {w : World} {T U : Nat → Prop} {v : Value} {xs : List Int} (h : RowT w T v xs) (hs : ∀ i, T i → U i) : RowT w U v xs := by
  obtain ⟨a, c, e, h1, h2, h3⟩ := h
  exact ⟨a, c, e, h1, h2, h3.imp id fun ⟨b, off, e, h4, h5, h6⟩ => ⟨b, off, e, h4, hs _ h5, h6⟩⟩
theorem rowsT_own {w : World} {B n : Nat} {T : Nat → Prop} {v : Value} {us : List Value} {xss : List (List Int)} (h : w.ownsRow B 22 1 v n us) (hn : us.length = n) (hl : us.length = xss.length) (hT : ∀ i, B ≤ i → i < w.heap.size → T i) (hr : ∀ i, i < xss.length → RowT w T (us.getD i nilSl) (xss.getD i [])) : RowsT w T v xss := by
  subst hn
  have ho := h
  rcases ho.2 with ⟨e0, e1⟩ | ⟨g, cap, cur', e0, hg, hh, h1, h2, _⟩
  · exact ⟨none, 0, by rw [e0, ← hl, e1], by omega, by unfold maxLen; omega, .inl (by omega)⟩
  · refine ⟨_, cap, by rw [← hl]; exact e0, by omega, h2, ?_⟩
    subst e0
    have hgl : g < w.heap.size := by
      rcases Nat.lt_or_ge g w.heap.size with h' | h'
      · exact h'
      · rw [Array.getElem?_eq_none h'] at hh; cases hh
    refine .inr ⟨g, 0, rfl, hgl, hT g hg hgl, fun j hj => ?_⟩
    have hju : j < us.length := by omega
    have hc := ho.cells (g := g) rfl j (us[j]) (by rw [List.getElem?_eq_getElem hju])
    rw [show (⟨g, 0, none⟩ : Addr).add j = ⟨g, 0 + j, none⟩ by unfold Addr.add; split <;> simp_all] at hc
    refine ⟨us[j], hc, ?_⟩
    have := hr j hj
    simpa [List.getD, hju] using this

set_option maxRecDepth 8000 in
set_option maxHeartbeats 4000000 in
theorem radd_gen (T : Nat → Prop) (g : Nat) (n : Int) (a : Option Addr) (cap : Nat) (xss : List (List Int)) (u : Value) (ys : List Int) (w : World) (hg : g < w.heap.size) (hc0 : w.cell? ⟨g, 0, none⟩ = some (.int .i64 n)) (hc1 : w.cell? ⟨g, 1, none⟩ = some (.slice a xss.length cap)) (hf1 : w.frozen? ⟨g, 1, none⟩ = false) (hn1 : 0 ≤ n) (hn2 : n ≤ 4000) (hT : ∀ i, T i → i < w.heap.size ∧ i ≠ g) (hx : RowsT w T (.slice a xss.length cap) xss) (hu : RowT w T u ys) (hy : ∀ l ∈ ys, 1 ≤ plc l ∧ (plc l : Int) ≤ n) (hl : ys.length ≤ 1000000) (hxl : xss.length ≤ 900) :
    Calls Try.prog 21 #[.pointer (some ⟨g, 0, none⟩), u] w fun e w' => e = .returned (.bool true) ∧ Chg [g] w w' ∧ w'.cell? ⟨g, 0, none⟩ = some (.int .i64 n) ∧ w'.frozen? ⟨g, 1, none⟩ = false ∧ ∃ a' c', w'.cell? ⟨g, 1, none⟩ = some (.slice a' (xss ++ [ys]).length c') ∧ RowsT w' (fun i => T i ∨ NewB w w' i) (.slice a' (xss ++ [ys]).length c') (xss ++ [ys]) := by
  have HRI := Lib.hid (right_any g n u ys w hc0 hn1 hn2 hu.row hy)
  obtain ⟨us, hul, _, hrow, hss, hrs⟩ := rowsT_vals hx
  have HUS := Lib.hid hrs
  have HTT := Lib.hid hT
  have HUT := Lib.hid hu
  have HUL := Lib.hid hul
  have HCR : Hid (∀ V, Below w.heap.size w V → Calls Try.prog 50 #[.slice a xss.length cap] V fun e w' => ∃ o, e = .returned o ∧ w'.ownsRow V.heap.size 22 1 o us.length us ∧ Below V.heap.size V w') := fun V hV => clsR_any _ us V (hrow.keep hV) hss (by omega)
  have HIN : Hid (∀ V, Below w.heap.size w V → Calls Try.prog 51 #[u] V fun e w' => ∃ v', e = .returned v' ∧ w'.ownsRow V.heap.size 3 1 v' ys.length (ys.map (Value.int .i64)) ∧ Below V.heap.size V w') := fun V hV => ints_any u ys V (hu.row.keep hV) (by omega)
  have HC0 := Lib.hid hc0
  have HF1 := Lib.hid hf1
  have HC1 := Lib.hid hc1
  have HG := Lib.hid hg
  obtain ⟨ua, uc, rfl, _⟩ := hu
  clear hx hy hrow hss hrs hT
  generalize hN : xss.length = N at *
  have HN := Lib.hid hN
  generalize hL : ys.length = L at *
  have HL := Lib.hid hL
  clear hN hL
  go_enter Try.func21, Try.ntmps21
  go_wp2_with fail
  refine HRI.out.mono ?_
  rintro e w1 ⟨rfl, k, rfl⟩
  have HB1 : Hid (Below w.heap.size w (w.drewN k)) := below_draws ⟨k, rfl⟩
  have hc1d : (w.drewN k).cell? ⟨g, 1, none⟩ = some (.slice a N cap) := hc1
  clear HRI hc0 hf1
  go_wp2_with fail
  refine (HCR.out _ HB1.out).mono ?_
  rintro e w2 ⟨o, rfl, ho, hb2⟩
  have HO := Lib.hid ho
  have HB2 : Hid (Below w.heap.size w w2) := HB1.out.trans (hb2.mono HB1.out.size)
  have hs2 := hb2.size
  have HZ2 : Hid (w.heap.size ≤ w2.heap.size) := hs2
  clear ho hb2
  go_wp2_with fail
  refine (HIN.out _ HB2.out).mono ?_
  rintro e w3 ⟨v', rfl, hv', hb3⟩
  have HV := Lib.hid hv'
  obtain ⟨va, vc, rfl, _, _⟩ := own_shape hv'
  have HO3 := Lib.hid (own_keep HO.out hb3)
  have HB3 : Hid (Below w.heap.size w w3) := HB2.out.trans (hb3.mono HB2.out.size)
  have hs3 : (w.drewN k).heap.size ≤ w3.heap.size := Nat.le_trans hs2 hb3.size
  have HVL : Hid (∀ q, (Value.slice va L vc).ownBlock = some q → w2.heap.size ≤ q ∧ q < w3.heap.size) := fun q hq => hv'.lt q hq
  have HOL : Hid (∀ q, o.ownBlock = some q → (w.drewN k).heap.size ≤ q ∧ q < w2.heap.size) := fun q hq => HO.out.lt q hq
  have hul2 : us.length ≤ 900 := by rw [HUL.out]; omega
  obtain ⟨K, hK⟩ : ∃ K, K = us.length := ⟨_, rfl⟩
  rw [← hK] at HO3 hul2
  have HKU : Hid (K = us.length) := hK
  clear hv' hb3 HCR HIN HO hc1d hul hK
  go_wp2_with (at_builtin; refine wpList_appV 25 22 (.slice none 0 0) 24 Try.underlying25 infoInts rfl (by decide) rfl _ _ rfl w3 (w.drewN k).heap.size _ K _ (.slice va L vc) rfl HO3.out hs3 (by omega) _ rfl rfl rfl ?_; intro o4 w4 ho4 ha4; obtain ⟨oa, oc, rfl, ho41, ho42⟩ := own_shape ho4; have x1 : w4.cell? ⟨g, 1, none⟩ = some (.slice a N cap) := ((HB3.out.trans ha4.below).cell (p := ⟨g, 1, none⟩) HG.out).trans HC1.out; have hf4 : w4.frozen? ⟨g, 1, none⟩ = false := (froz_blk ((HB3.out.trans ha4.below).block g HG.out) 1).trans HF1.out)
  have HW4 : Hid (Below w.heap.size w w4) := HB3.out.trans ha4.below
  have HA4 := Lib.hid ha4
  have HO4 := Lib.hid ho4
  clear ho4 ha4
  go_ret
  have hgo : ∀ q, (Value.slice oa (K + 1) oc).ownBlock = some q → q ≠ g := fun q hq => by
    have := (HO4.out.lt q hq).1
    have h2 : (w.drewN k).heap.size = w.heap.size := rfl
    have := HG.out
    omega
  have hcg : Chg [g] w4 (w4.setCell ⟨g, 1, none⟩ (.slice oa (K + 1) oc)) := (Chg.refl [g] w4).setCell (.inl (by simp)) _
  have hch : Chg [g] w (w4.setCell ⟨g, 1, none⟩ (.slice oa (K + 1) oc)) := (Chg.of_below HW4.out).trans hcg (Fresh.refl _ _)
  have hkp : Kp T w (w4.setCell ⟨g, 1, none⟩ (.slice oa (K + 1) oc)) := ⟨hch.size, fun i hi => hch.block i (HTT.out i hi).1 (by simp; exact (HTT.out i hi).2)⟩
  refine ⟨rfl, hch, (set_off (.inr (by decide))).trans ((HW4.out.cell (p := ⟨g, 0, none⟩) HG.out).trans HC0.out), set_fr ((froz_blk (HW4.out.block g HG.out) 1).trans HF1.out), oa, oc, ?_, ?_⟩
  · rw [set_at x1, List.length_append, HN.out, List.length_singleton, HKU.out, HUL.out]
  · have hown := own_chg HO4.out hcg fun q hq hm => by simp at hm; exact hgo q hq hm
    have hrow : ∀ q, (Value.slice va L vc).ownBlock = some q → q ≠ g ∧ o.ownBlock ≠ some q := fun q hq => by
      have h1 := HVL.out q hq
      refine ⟨?_, fun e => ?_⟩
      · have h2 : (w.drewN k).heap.size = w.heap.size := rfl
        have := HG.out
        omega
      · have := HOL.out q e
        omega
    have hv4 := own_chg (own_chg HV.out (Chg.app HA4.out (S := rowB o) fun q hq => mem_rowB.2 hq) fun q hq hm => (hrow q hq).2 (mem_rowB.1 hm)) hcg fun q hq hm => by simp at hm; exact (hrow q hq).1 hm
    have hlu : us.length = xss.length := by rw [HUL.out, HN.out]
    have hlen : (us ++ [Value.slice va L vc]).length = (xss ++ [ys]).length := by rw [List.length_append, List.length_append, HUL.out, HN.out]; rfl
    have hKl : K + 1 = (us ++ [Value.slice va L vc]).length := by rw [List.length_append, List.length_singleton, HKU.out]
    have hKx : K + 1 = (xss ++ [ys]).length := hKl.trans hlen
    rw [← hKx]
    refine rowsT_own (n := K + 1) hown hKl.symm hlen (fun i h1 h2 => .inr ⟨h1, h2⟩) fun i hi => ?_
    rw [List.length_append, List.length_singleton] at hi
    by_cases hlt : i < xss.length
    · have e1 : (us ++ [Value.slice va L vc]).getD i nilSl = us.getD i nilSl := by simp [List.getD, List.getElem?_append_left (show i < us.length by omega)]
      have e2 : (xss ++ [ys]).getD i [] = xss.getD i [] := by simp [List.getD, List.getElem?_append_left hlt]
      rw [e1, e2]
      exact RowT.subU ((HUS.out i (by rw [← HN.out]; exact hlt)).keep hkp) (fun i hi => Or.inl hi)
    · have hi2 : i = xss.length := by omega
      have e1 : (us ++ [Value.slice va L vc]).getD i nilSl = Value.slice va L vc := by rw [hi2, ← hlu]; simp [List.getD]
      have e2 : (xss ++ [ys]).getD i [] = ys := by rw [hi2]; simp [List.getD]
      rw [e1, e2]
      have hz : w.heap.size ≤ w2.heap.size := HZ2.out
      have := HL.out
      subst this
      exact own_rowT hv4 fun i h1 h2 => .inr ⟨Nat.le_trans hz h1, h2⟩

theorem radd_any (g : Nat) (n : Int) (a : Option Addr) (cap : Nat) (xss : List (List Int)) (u : Value) (ys : List Int) (w : World) (hg : g < w.heap.size) (hc0 : w.cell? ⟨g, 0, none⟩ = some (.int .i64 n)) (hc1 : w.cell? ⟨g, 1, none⟩ = some (.slice a xss.length cap)) (hf1 : w.frozen? ⟨g, 1, none⟩ = false) (hn1 : 0 ≤ n) (hn2 : n ≤ 4000) (hx : RowsT w (fun i => i < g) (.slice a xss.length cap) xss) (hu : RowT w (fun i => i < g) u ys) (hy : ∀ l ∈ ys, 1 ≤ plc l ∧ (plc l : Int) ≤ n) (hl : ys.length ≤ 1000000) (hxl : xss.length ≤ 900) :
    Calls Try.prog 21 #[.pointer (some ⟨g, 0, none⟩), u] w fun e w' => e = .returned (.bool true) ∧ Chg [g] w w' ∧ w'.cell? ⟨g, 0, none⟩ = some (.int .i64 n) ∧ ∃ a' c', w'.cell? ⟨g, 1, none⟩ = some (.slice a' (xss ++ [ys]).length c') ∧ RowsAt w' a' c' (xss ++ [ys]) := by
  refine (radd_gen (fun i => i < g) g n a cap xss u ys w hg hc0 hc1 hf1 hn1 hn2 (fun i hi => ⟨Nat.lt_trans hi hg, Nat.ne_of_lt hi⟩) hx hu hy hl hxl).mono ?_
  rintro e w' ⟨rfl, h1, h2, _, a', c', h3, h4⟩
  obtain ⟨a2, c2, e, h5⟩ := h4.rows
  injection e with e1 _ e3
  subst e1; subst e3
  exact ⟨rfl, h1, h2, _, _, h3, h5⟩
end Go.Proofs.Ytjlmooimdogmjaa
