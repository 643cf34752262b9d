/- Slices of pairs of ints as they are read ('PRow'), and skolemref.Pairs: a copy in memory of the call's own. Conditions: the slice reads as pairs, and is not too long. -/
import Derived.Test.YtmgepagdkfghlaaDoorGrD
namespace Go.Proofs.YtmgepagdkfghlaaDoor
open Go.RowKit

def PRowAt (w : World) (a : Option Addr) (c : Nat) (ps : List (Int × Int)) : Prop :=
  ps.length ≤ c ∧ c ≤ maxLen ∧ (ps.length = 0 ∨ ∃ b off, a = some ⟨b, off, none⟩ ∧ b < w.heap.size ∧ ∀ i, i < ps.length → w.cell? ⟨b, off + i * 2, none⟩ = some (.int .i64 (ps.getD i (0, 0)).1) ∧ w.cell? ⟨b, off + i * 2 + 1, none⟩ = some (.int .i64 (ps.getD i (0, 0)).2))
/-- The value v is a slice that reads as these pairs. -/
def PRow (w : World) (v : Value) (ps : List (Int × Int)) : Prop := ∃ a c, v = .slice a ps.length c ∧ PRowAt w a c ps
theorem PRowAt.keep {w w' : World} {a : Option Addr} {c : Nat} {ps : List (Int × Int)} (h : PRowAt w a c ps) (hb : Below w.heap.size w w') : PRowAt w' a c ps := by
  obtain ⟨h1, h2, h3⟩ := h
  refine ⟨h1, h2, ?_⟩
  rcases h3 with h3 | ⟨b, off, e, hlt, hc⟩
  · exact .inl h3
  · exact .inr ⟨b, off, e, Nat.lt_of_lt_of_le hlt hb.size, fun i hi => ⟨(hb.cell (p := ⟨b, off + i * 2, none⟩) hlt).trans (hc i hi).1, (hb.cell (p := ⟨b, off + i * 2 + 1, none⟩) hlt).trans (hc i hi).2⟩⟩
theorem PRow.keep {w w' : World} {v : Value} {ps : List (Int × Int)} (h : PRow w v ps) (hb : Below w.heap.size w w') : PRow w' v ps := by
  obtain ⟨a, c, e, h⟩ := h
  exact ⟨a, c, e, h.keep hb⟩
theorem PRow.nil (w : World) : PRow w (.slice none 0 0) [] := ⟨none, 0, rfl, by simp, by unfold maxLen; omega, .inl rfl⟩
theorem own_prow {w : World} {B : Nat} {e : TypeId} {v : Value} {n : Nat} {ps : List (Int × Int)} (h : w.ownsRow B e 2 v n (ps.flatMap pcells)) : PRow w v ps := by
  have hl : ps.length = n := by have := h.1; rw [pflat_len] at this; omega
  subst hl
  rcases h.2 with ⟨e0, e1⟩ | ⟨g, cap, cur, hv, hb, hg, hn, hm, hs, ht⟩
  · exact ⟨none, 0, by rw [e0, e1], by omega, by unfold maxLen; omega, .inl e1⟩
  · subst hv
    have hget : ∀ i j u, i < ps.length → j < 2 → (pcells (ps.getD i (0, 0)))[j]? = some u → w.cell? ⟨g, i * 2 + j, none⟩ = some u := fun i j u hi hj hu => by
      have := h.cells (g := g) rfl (i * 2 + j) u (by rw [pflat_get ps i j hi hj]; exact hu)
      rwa [add0] at this
    exact ⟨_, cap, rfl, hn, hm, .inr ⟨g, 0, rfl, (h.lt g rfl).2, fun i hi => ⟨by simpa using hget i 0 _ hi (by omega) rfl, by simpa using hget i 1 _ hi (by omega) rfl⟩⟩⟩
theorem take_snocP (xs : List (Int × Int)) (k : Nat) (h : k < xs.length) : xs.take (k + 1) = xs.take k ++ [xs.getD k (0, 0)] := by
  rw [List.take_succ_eq_append_getElem h]; simp [List.getD, h]

/-- 'make([][2]int, 0, n)'. -/
theorem wpList_make0P {ops : Array Oper} {rest : List Oper} {o : Oper} {a : Act} {Q : Exit → Act → World → Prop} (hgd : o.guard = none) (l c : Operand) (ho : o.op = Op.makeSlice 22 l c)
    (w : World) (n : Nat) (hl : a.eval l = .int .i64 0) (hc : a.eval c = .int .i64 (n : Int)) (hn : n < 1099511627776)
    (h : ∀ w', w'.ownsRow w.heap.size 59 2 (.slice (some ⟨w.heap.size, 0, none⟩) 0 n) 0 (([] : List (Int × Int)).flatMap pcells) → Below w.heap.size w w' → w.heap.size < w'.heap.size → wpList Tryd.prog ops Q rest (a.put o.dst (.slice (some ⟨w.heap.size, 0, none⟩) 0 n)) w') :
    wpList Tryd.prog ops Q (o :: rest) a w := by
  obtain ⟨i0, hi, hz0, hz1, hz2⟩ := info_parts infoA
  refine wpList_make_own _ hgd l c 22 ho w.heap.size 59 i0 _ 2 Tryd.underlying22 hi hz0 hz1 _ _ _ n hl hc rfl (by rw [hz2]; omega) (by unfold maxLen; omega) (Nat.le_refl _) ?_
  intro w' h1 h2
  have hlt := h1.lt w.heap.size rfl
  exact h w' (by simpa using h1) ((Below.refl _ w).grown h2 (Nat.le_refl _) fun k hk => by cases hk) hlt.2

set_option maxRecDepth 8000 in
set_option maxHeartbeats 4000000 in
theorem pairs_any (v : Value) (ps : List (Int × Int)) (w : World) (hv : PRow w v ps) (hn : ps.length ≤ 1000000) :
    Calls Tryd.prog 43 #[v] w fun e w' => (∃ u, e = .returned u ∧ w'.ownsRow w.heap.size 59 2 u ps.length (ps.flatMap pcells)) ∧ Below w.heap.size w w' := by
  obtain ⟨av, cv, rfl, hv1, hv2, hv3⟩ := hv
  unfold maxLen at hv2
  have HV := Lib.hid hv3; clear hv3
  have HTK := Lib.hid (fun k (hk : k < ps.length) => take_snocP ps k hk)
  have HTE : Hid (ps.take ps.length = ps) := List.take_length
  have HLN : Hid (∀ k (cur : List (Int × Int)), k ≤ ps.length → cur = ps.take k → cur.length = k) := fun k cur hk e => by rw [e, List.length_take]; omega
  generalize hnn : ps.length = n at *
  have HN := Lib.hid hnn; clear hnn
  go_enter Tryd.func43, Tryd.ntmps43
  go_wp2_with (at_make; refine wpList_make0P rfl _ _ rfl w n rfl rfl (by omega) ?_; intro w1 hown1 hb1 hs1)
  go_loopw [3, 4] (fun o i wr => ∃ (k : Nat) (cur : List (Int × Int)), k ≤ n ∧ i = .int .i64 k ∧ wr.ownsRow w.heap.size 59 2 o cur.length (cur.flatMap pcells) ∧ Below w.heap.size w wr ∧ Hid (cur = ps.take k)) (fun _ i _ => n - (intOf i).toNat)
  case atStart => exact ⟨0, [], Nat.zero_le _, rfl, hown1, hb1, rfl⟩
  case round =>
    obtain ⟨k, cur, hk, rfl, hrow, hbr, HCUR⟩ := hrel
    clear hown1 hb1 hs1
    obtain ⟨ao, co, rfl, _, _⟩ := row_shape hrow
    by_cases hlt : k < n
    · obtain ⟨vb, vo, ha, hvb, hvc⟩ := HV.out.resolve_left (by omega)
      subst ha
      obtain ⟨x0, x1⟩ := hvc k hlt
      have g0 := (hbr.cell (p := ⟨vb, vo + k * 2, none⟩) hvb).trans x0
      have g1 := (hbr.cell (p := ⟨vb, vo + k * 2 + 1, none⟩) hvb).trans x1
      clear hvc x0 x1
      have hcl : cur.length ≤ 1000000 := by have := HLN.out k cur hk HCUR.out; omega
      have HBS := Lib.hid hbr.size
      have HST : Hid (cur ++ [ps.getD k (0, 0)] = ps.take (k + 1)) := by unfold Hid; rw [HTK.out k hlt, HCUR.out]
      have HFL : Hid ((cur ++ [ps.getD k (0, 0)]).flatMap pcells = cur.flatMap pcells ++ pcells ((ps.getD k (0, 0)).1, (ps.getD k (0, 0)).2)) := by unfold Hid; simp
      have HLE : Hid ((cur ++ [ps.getD k (0, 0)]).length = cur.length + 1) := by unfold Hid; simp
      generalize ps.getD k (0, 0) = xy at *
      have HBR := Lib.hid hbr
      clear hbr
      generalize hcc : cur.length = cl at *
      go_wp2_with (at_builtin; refine wpList_appS 22 59 _ 2 16 Tryd.underlying22 infoA rfl (by decide) (by decide) rfl _ _ rfl wr w.heap.size _ cl (cur.flatMap pcells) (pcells (xy.1, xy.2)) (pcells_one _) rfl hrow HBS.out (by omega) _ rfl rfl rfl ?_; intro v' w2 hown2 hap)
      go_roundw
      case rel => exact ⟨k + 1, cur ++ [xy], by omega, by go_num, by rw [HLE.out, HFL.out]; exact hown2, HBR.out.trans hap.below, HST.out⟩
      case measure => simp [intOf]; omega
    · have hkn : k = n := by omega
      subst hkn
      have HRW : Hid (wr.ownsRow w.heap.size 59 2 (.slice ao cur.length co) k (ps.flatMap pcells)) := by
        have h := hrow
        rw [HLN.out k cur (Nat.le_refl _) HCUR.out, HCUR.out, HTE.out] at h
        rw [HCUR.out, HTE.out, HN.out]
        exact h
      clear hrow
      have HBR := Lib.hid hbr
      clear hbr
      go_wp2_with fail
      go_ret
      exact ⟨⟨_, rfl, HRW.out⟩, HBR.out⟩
end Go.Proofs.YtmgepagdkfghlaaDoor
