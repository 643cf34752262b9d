/- Contracts of tseitin.Extend and skolemlaw13.first. Conditions: the circuit is right; the two errors lie as 'Sents2' says. · Contracts of skolemmake.Values (Booleans, that many) and skolemlaw9.is. Conditions: few values; the literal is one of the inputs' or a constant. · A circuit's variable ('CV'), one whose outputs are a row of the call's own ('CS'); a variable of clauses ('NV'); a right circuit with other outputs. No conditions beyond those typed. · The clauses of a circuit that a graph made: three for each gate, of two, two and three literals; one for each literal that is forced. Plain facts on ints and lists; no conditions beyond those typed. · Contracts of the document's own small helpers: skolemref.Abs, skolemref1.Is, before, Rename. Conditions: the literals are 64-bit ints above the least, the lists are short. · Contracts of the statements' helpers for errors: skolemref.None, Bare, Placed, SameFault; skolemsee.sentinels, Alike, sentinel, Fault, Same. Conditions: the package's errors lie as 'Sents' says. · The contract of skolemmake.Near: whether all ints of the slice are at least -2^60. Conditions: the slice reads as the list named. · Contracts of skolemmake.NearAll, skolemmake.Count and of the document's own skolemref1.CheckCNF. Conditions: the clauses read as lists of 64-bit ints, few and short ones. · The contract of the document's Circuit. Conditions: the graph lies in memory as 'RgM' says; the outputs read as ints, not too many. · The law TseitinSizes: true for whatever arguments. Conditions: the slices and the number read as 64-bit ints; the two errors lie as 'Sents2' says. -/
import Derived.Test.YtmgepagdkfghlaaDoorTsF
import Derived.Test.YtmgepagdkfghlaaDoorLkN
import Derived.Test.YtmgepagdkfghlaaDoorEvl
import Derived.Test.YtmgepagdkfghlaaDoorOfA
import Derived.Test.YtmgepagdkfghlaaDoorTsP
import Derived.Test.YtmgepagdkfghlaaDoorCheckP
import Derived.Test.YtmgepagdkfghlaaDoorRename
import Derived.Test.YtmgepagdkfghlaaDoorSents
import Derived.Test.YtmgepagdkfghlaaDoorChecked
import Derived.Laws.ResultCell
import Derived.WalkLawsBesides
import Derived.WalkSpells
import Derived.WideLaws
import Derived.Deep.QuietTactic
import Derived.BigQuiet
import Derived.Deep.RegionWith
import Derived.Deep.DeepCutAuto
import Derived.Test.YtmgepagdkfghlaaDoorBase
import Derived.Lib.Hide
import Derived.Test.YtmgepagdkfghlaaDoorCir
import Derived.Test.YtmgepagdkfghlaaDoorRbB
namespace Go.Proofs.YtmgepagdkfghlaaDoor
open Go.RowKit

set_option maxHeartbeats 1000000 in
theorem text_any (A : Nat → Addr) (N : Nat) (u v q : Value) (ps : List (Int × Int)) (os : List Int) (ins : List Bool) (w : World) (hs : Sents2 w A) (hu : PRow w u ps) (hv : Row w v os) (hol : os.length ≤ 1000000) (hob : ∀ o ∈ os, in64 o) (hq : BRow w q ins) (hnl : ins.length ≤ 1000) (hc : checkC (N : Int) ps os = 0) :
    Calls Tryd.prog 13 #[circV (N : Int) u v, q] w fun e w' => ∃ z, e = .returned z ∧ w'.ownsRow w.heap.size 4 1 z (N + 1 + ps.length) ((nodesV N ps ins).map Value.bool) ∧ Below w.heap.size w w' := by
  have HL := Lib.hid (fun W (hW : Below w.heap.size w W) => lnodes_any A N u v q ps os ins W (hs.keep hW) (hu.keep hW) (hv.keep hW) hol hob (hq.keep hW) hnl hc)
  obtain ⟨a1, c1, rfl, _⟩ := hu
  obtain ⟨a2, c2, rfl, _⟩ := hv
  obtain ⟨a3, c3, rfl, _⟩ := hq
  have HA : Hid (Below w.heap.size w (w.alloc (.cells #[.int .i64 (N : Int), .slice a1 ps.length c1, .slice a2 os.length c2] 25))) := (Below.refl _ _).alloc (Nat.le_refl _) _
  have HC := Lib.hid (HL.out _ HA.out)
  clear HL hs hob hc hol hnl
  unfold circV at *
  generalize nodesV N ps ins = vs at *
  generalize ps.length = m at *
  generalize os.length = l at *
  generalize ins.length = il at *
  go_enter Tryd.func13, Tryd.ntmps13
  go_wp2_with fail
  refine HC.out.mono ?_
  rintro e w1 ⟨z, rfl, hz, hb1⟩
  have HZ := Lib.hid (own_base hz (show w.heap.size ≤ _ by simp))
  have HB1 := Lib.hid (HA.out.trans (hb1.mono (by simp)))
  obtain ⟨az, cz, rfl, _, _⟩ := own_shape hz
  clear hz hb1
  go_wp2_with fail
  go_ret
  exact ⟨_, rfl, HZ.out, HB1.out⟩

theorem okO_all {N : Nat} {ps : List (Int × Int)} {os : List Int} (h : checkC (N : Int) ps os = 0) : ∀ o ∈ os, in64 o := by
  obtain ⟨h1, h2, h3⟩ := check_zero8 h
  refine okO_in (m := N + ps.length) (by omega) fun o ho => ?_
  obtain ⟨j, hj, rfl⟩ := List.getElem_of_mem ho
  simpa [List.getD, hj] using h3 j hj
set_option maxHeartbeats 1000000 in
theorem first13_any (A : Nat → Addr) (w : World) (hs : Sents2 w A) :
    Calls Tryd.prog 7 #[] w fun e w' => e = .returned (.bool true) ∧ Below w.heap.size w w' := by
  have HR : Hid (Row (w.alloc (.cells #[.int .i64 0] 3)) (.slice (some ⟨w.heap.size, 0, none⟩) 1 1) [0]) := row_lit13 w [0] (by simp)
  have HB2 : Hid (Below w.heap.size w (w.alloc (.cells #[.int .i64 0] 3))) := (Below.refl _ w).alloc (Nat.le_refl _) _
  have HE := Lib.hid (tenc_ok A 1 (.slice none 0 0) (.slice none 0 0) (.slice (some ⟨w.heap.size, 0, none⟩) 1 1) [] [] [0] _ (hs.keep HB2.out) (PRow.nil _) (Row.nil _) HR.out (by simp) (by simp) (by simp) (by intro l hl; simp at hl; subst hl; exact ⟨by omega, by omega⟩) (by decide) (by decide) (by simp))
  have HL := Lib.hid (fun W => tlit_any 5 W (by omega) (by omega))
  rw [show litC 5 = -2 from by decide] at HL
  unfold EncPost at HE
  rw [show encC 1 [] [0] = [[]] from by decide, show errC A 0 = .nilIface from rfl] at HE
  unfold circV at HE
  rw [show ((1 : Nat) : Int) + (([] : List (Int × Int)).length : Int) = 1 from rfl, show ((1 : Nat) : Int) = 1 from rfl] at HE
  clear hs
  go_enter Tryd.func7, Tryd.ntmps7
  go_wp2_with fail
  refine HE.out.mono ?_
  rintro e w1 ⟨⟨o, rfl, hr⟩, hb1⟩
  have HB := Lib.hid (HB2.out.trans (hb1.mono (by simp)))
  obtain ⟨ao, co, rfl, _⟩ := hr.rows
  have HA : Hid (Below w.heap.size w (w1.alloc (.cells #[.int .i64 1, .slice ao 1 co] 29))) := HB.out.alloc HB.out.size _
  obtain ⟨k0, k1⟩ := two_new w1 w1.heap.size rfl (.int .i64 1) (.slice ao 1 co) 29
  simp only [List.length_singleton]
  clear hr hb1
  go_wp2_with (go_at_call 20; refine (HL.out _).mono ?_; rintro e w' ⟨rfl, rfl⟩)
  go_ret
  exact ⟨rfl, HA.out⟩
end Go.Proofs.YtmgepagdkfghlaaDoor

namespace Go.Proofs.YtmgepagdkfghlaaDoor
open Go.RowKit

set_option maxRecDepth 8000 in
set_option maxHeartbeats 2000000 in
theorem values_any (n : Int) (m : Nat) (w : World) (_hn1 : -9223372036854775808 ≤ n) (_hn2 : n ≤ 9223372036854775807) (hm : m ≤ 59) :
    Calls Tryd.prog 14 #[.int .i64 n, .int .i64 (m : Int)] w fun e w' => ∃ (z : Value) (xs : List Bool), e = .returned z ∧ w'.ownsRow w.heap.size 4 1 z m (xs.map Value.bool) ∧ Below w.heap.size w w' := by
  go_enter Tryd.func14, Tryd.ntmps14
  go_wp2_with fail
  go_loopw [6, 5] (fun i u wr => ∃ (k : Nat) (xs : List Bool), k ≤ m ∧ i = .int .i64 k ∧ wr.ownsRow w.heap.size 4 1 u k (xs.map Value.bool) ∧ Below w.heap.size w wr) (fun i _ _ => m - (intOf i).toNat)
  case atStart => exact ⟨0, [], Nat.zero_le _, rfl, World.ownsRow_nil _ _ _ _, Below.refl _ _⟩
  case round =>
    obtain ⟨k, xs, hk, rfl, hown, hbr⟩ := hrel
    obtain ⟨ab, cb, rfl, _, hcb⟩ := own_shape hown
    unfold maxLen at hcb
    by_cases hlt : k < m
    · have hsz := hbr.size
      have HBQ := Lib.hid hbr
      clear hbr
      go_wp2_with (at_builtin; refine wpList_app1G Value.bool 40 4 (.bool false) 1 Tryd.underlying40 infoBool9 rfl (by decide) rfl _ _ rfl wr w.heap.size _ k xs _ rfl hown hsz (by omega) rfl rfl ?_; intro u' w5 hown5 hap5)
      go_roundw
      case rel => exact ⟨k + 1, _, by omega, by go_num, hown5, HBQ.out.trans hap5.below⟩
      case measure => simp [intOf]; omega
    · have hkm : m = k := by omega
      subst hkm
      go_wp2_with fail
      go_ret
      exact ⟨_, _, rfl, hown, hbr⟩

end Go.Proofs.YtmgepagdkfghlaaDoor

namespace Go.Proofs.YtmgepagdkfghlaaDoor
open Go.RowKit

/-- A variable of type api.Circuit at block b. -/
structure CV (W : World) (b : Nat) (n : Int) (u o : Value) : Prop where
  c0 : W.cell? ⟨b, 0, none⟩ = some (.int .i64 n)
  c1 : W.cell? ⟨b, 1, none⟩ = some u
  c2 : W.cell? ⟨b, 2, none⟩ = some o
  fr : ∀ k, W.frozen? ⟨b, k, none⟩ = false
  lt : b < W.heap.size
theorem CV.keep {W W' : World} {b : Nat} {n : Int} {u o : Value} (h : CV W b n u o) (hb : Below W.heap.size W W') : CV W' b n u o where
  c0 := (hb.cell (p := ⟨b, 0, none⟩) h.lt).trans h.c0
  c1 := (hb.cell (p := ⟨b, 1, none⟩) h.lt).trans h.c1
  c2 := (hb.cell (p := ⟨b, 2, none⟩) h.lt).trans h.c2
  fr := fun k => (hb.frozen (p := ⟨b, k, none⟩) h.lt).trans (h.fr k)
  lt := Nat.lt_of_lt_of_le h.lt hb.size
theorem CV.set1 {W : World} {b : Nat} {n : Int} {u o : Value} (h : CV W b n u o) (u' : Value) : CV (W.setCell ⟨b, 1, none⟩ u') b n u' o where
  c0 := (set_off (.inr (by decide))).trans h.c0
  c1 := set_at h.c1
  c2 := (set_off (.inr (by decide))).trans h.c2
  fr := fun k => (World.frozen?_setCell _ _ _ _).trans (h.fr k)
  lt := by have := h.lt; simpa using this
theorem CV.set2 {W : World} {b : Nat} {n : Int} {u o : Value} (h : CV W b n u o) (o' : Value) : CV (W.setCell ⟨b, 2, none⟩ o') b n u o' where
  c0 := (set_off (.inr (by decide))).trans h.c0
  c1 := (set_off (.inr (by decide))).trans h.c1
  c2 := set_at h.c2
  fr := fun k => (World.frozen?_setCell _ _ _ _).trans (h.fr k)
  lt := by have := h.lt; simpa using this
theorem CV.new (w : World) (n : Int) (u o : Value) (T : TypeId) : CV (w.alloc (.cells #[.int .i64 n, u, o] T)) w.heap.size n u o where
  c0 := by rw [cell_of_row _ _ 0 _ T (0, 0) (heap_alloc_new _ _)]; rfl
  c1 := by rw [cell_of_row _ _ 1 _ T (0, 0) (heap_alloc_new _ _)]; rfl
  c2 := by rw [cell_of_row _ _ 2 _ T (0, 0) (heap_alloc_new _ _)]; rfl
  fr := fun k => by simp only [World.frozen?, heap_alloc_new]; simp
  lt := by simp
/-- A circuit's variable at b whose outputs are a row of the call's own. -/
structure CS (w3 : World) (b : Nat) (n : Int) (u o : Value) (os : List Int) (W : World) : Prop where
  cv : CV W b n u o
  bel : Below b w3 W
  own : W.ownsRow (b + 1) 3 1 o os.length (os.map (Value.int .i64))
theorem CS.keep {w3 : World} {b : Nat} {n : Int} {u o : Value} {os : List Int} {W W' : World} (h : CS w3 b n u o os W) (hb : Below W.heap.size W W') : CS w3 b n u o os W' :=
  ⟨h.cv.keep hb, h.bel.trans (hb.mono (Nat.le_of_lt h.cv.lt)), own_keep h.own hb⟩
theorem cs_outs {w3 : World} {b : Nat} {n : Int} {u o : Value} {W : World} (hc : CV W b n u o) (hb : Below b w3 W) (xs : List Int) (k : Nat) (hk : xs.length = k) (hx : k ≤ 1000000) : CS w3 b n u (.slice (some ⟨W.heap.size, 0, none⟩) k k) xs ((W.setCell ⟨b, 2, none⟩ (.slice (some ⟨W.heap.size, 0, none⟩) k k)).alloc (.cells (xs.map (Value.int .i64)).toArray 3)) := by
  subst hk
  have hz : (W.setCell ⟨b, 2, none⟩ (.slice (some ⟨W.heap.size, 0, none⟩) xs.length xs.length)).heap.size = W.heap.size := by simp
  have h0 := hc.set2 (.slice (some ⟨W.heap.size, 0, none⟩) xs.length xs.length)
  have h2 := own_lit (W.setCell ⟨b, 2, none⟩ (.slice (some ⟨W.heap.size, 0, none⟩) xs.length xs.length)) (b + 1) 3 (xs.map (Value.int .i64)) h0.lt (by rw [List.length_map]; exact hx)
  rw [List.length_map, hz] at h2
  exact ⟨h0.keep ((Below.refl _ _).alloc (Nat.le_refl _) _), (hb.setCell (Nat.le_refl _) _).alloc (Nat.le_of_lt h0.lt) _, h2⟩
theorem check_outs {N : Nat} {ps : List (Int × Int)} {os os' : List Int} (hc : checkC (N : Int) ps os = 0) (h : ∀ o ∈ os', okO (N + ps.length) o = true) : checkC (N : Int) ps os' = 0 := by
  obtain ⟨h1, h2, _⟩ := check_zero8 hc
  exact mk_right h1 h2 h
theorem check_in64 {N : Nat} {ps : List (Int × Int)} {os : List Int} (hc : checkC (N : Int) ps os = 0) : ∀ o ∈ os, in64 o := by
  obtain ⟨h1, _, h3⟩ := check_zero8 hc
  intro o ho
  obtain ⟨j, hj, rfl⟩ := List.getElem_of_mem ho
  have := (okO_iff _ _).1 (h3 j hj)
  simp only [List.getD, List.getElem?_eq_getElem hj, Option.getD_some] at this
  unfold in64
  omega

/-- A variable of clauses at block b. -/
structure NV (W : World) (b : Nat) (m : Int) (o : Value) : Prop where
  c0 : W.cell? ⟨b, 0, none⟩ = some (.int .i64 m)
  c1 : W.cell? ⟨b, 1, none⟩ = some o
  lt : b < W.heap.size
theorem NV.keep {W W' : World} {b : Nat} {m : Int} {o : Value} (h : NV W b m o) (hb : Below W.heap.size W W') : NV W' b m o where
  c0 := (hb.cell (p := ⟨b, 0, none⟩) h.lt).trans h.c0
  c1 := (hb.cell (p := ⟨b, 1, none⟩) h.lt).trans h.c1
  lt := Nat.lt_of_lt_of_le h.lt hb.size
theorem NV.new (w : World) (m : Int) (o : Value) (T : TypeId) : NV (w.alloc (.cells #[.int .i64 m, o] T)) w.heap.size m o where
  c0 := by rw [cell_of_row _ _ 0 _ T (0, 0) (heap_alloc_new _ _)]; rfl
  c1 := by rw [cell_of_row _ _ 1 _ T (0, 0) (heap_alloc_new _ _)]; rfl
  lt := by simp
theorem NV.off {W : World} {b : Nat} {m : Int} {o : Value} (h : NV W b m o) {b' i : Nat} (hb : b' ≠ b) (v : Value) : NV (W.setCell ⟨b', i, none⟩ v) b m o where
  c0 := (set_off (.inl hb)).trans h.c0
  c1 := (set_off (.inl hb)).trans h.c1
  lt := by have := h.lt; simpa using this
theorem CRow.rows_at {w : World} {B : Nat} {a : Option Addr} {L c : Nat} {xss : List (List Int)} (h : CRow w B (.slice a L c) xss) : L = xss.length ∧ RowsAt w a c xss := by
  obtain ⟨a', c', e, hr⟩ := h.rows
  injection e with e1 e2 e3
  subst e1; subst e3
  exact ⟨e2, hr⟩
theorem InC.inW {m : Int} {c : List Int} (h : InC m c) (hm : m ≤ 1000000) : InW c := fun x hx => by have := h x hx; omega
end Go.Proofs.YtmgepagdkfghlaaDoor

namespace Go.Proofs.YtmgepagdkfghlaaDoor

/-- A gate of a graph is of two that are none of the constants. -/
theorem nrm_two {g : Gr} (h : Nrm g) (k : Nat) (hk : k < g.ands.length) : 2 ≤ (g.ands.getD k (0, 0)).2 ∧ 2 ≤ (g.ands.getD k (0, 0)).1 := by
  obtain ⟨h1, h2⟩ := h k hk
  obtain ⟨o1, o2, o3⟩ := (okP_iff _ _ _).1 h2
  generalize (g.ands.getD k (0, 0)).1 = x at *
  generalize (g.ands.getD k (0, 0)).2 = y at *
  have hl : (⟨g.n, g.ands.take k, 0⟩ : Gr).len = g.n + k := by unfold Gr.len; simp; omega
  have hx : (⟨g.n, g.ands.take k, 0⟩ : Gr).isB x = true := by rw [isB_iff, hl]; omega
  have hy : (⟨g.n, g.ands.take k, 0⟩ : Gr).isB y = true := by rw [isB_iff, hl]; omega
  rw [andG_yes _ x y hx hy, Int.max_eq_left o2, Int.min_eq_right o2] at h1
  have hne : ∀ l : Int, ((⟨g.n, g.ands.take k, 0⟩ : Gr), l) ≠ (⟨g.n, g.ands.take (k + 1), 0⟩, 2 * (((g.n + k : Nat) : Int) + 1)) := fun l e => by
    have e1 := congrArg (fun z : Gr × Int => z.1.ands.length) e
    simp only [List.length_take] at e1
    omega
  have hn := notI_of y o1
  unfold andN at h1
  by_cases c1 : y = 0 ∨ x = notI y
  · rw [if_pos c1] at h1; exact absurd h1 (hne _)
  · rw [if_neg c1] at h1
    by_cases c2 : y = 1 ∨ x = y
    · rw [if_pos c2] at h1; exact absurd h1 (hne _)
    · omega
theorem notI_two {l : Int} (h : 2 ≤ l) : 2 ≤ notI l := by unfold notI; split <;> omega
theorem litC_not {l : Int} (h : 2 ≤ l) : litC (notI l) = -litC l := by
  have h2 := notI_two h
  unfold notI at h2 ⊢
  unfold litC
  by_cases c : l % 2 = 0
  · rw [if_pos c] at h2 ⊢
    rw [if_neg (by omega), if_pos (by omega), if_neg (by omega), if_neg (by omega)]; omega
  · rw [if_neg c] at h2 ⊢
    rw [if_neg (by omega), if_neg (by omega), if_neg (by omega), if_pos (by omega)]; omega
theorem oneC_two {ls : List Int} (h : ∀ l ∈ ls, 2 ≤ l) : oneC ls = false := by
  unfold oneC
  rw [List.any_eq_false]
  intro l hl
  have := h l hl
  simp; omega
theorem clauseC_two : ∀ {ls : List Int}, (∀ l ∈ ls, 2 ≤ l) → clauseC ls = ls.map litC
  | [], _ => rfl
  | l :: ls, h => by
    have : clauseC (l :: ls) = putC l ++ clauseC ls := by simp [clauseC]
    rw [this, clauseC_two (fun x hx => h x (by simp [hx]))]
    have := h l (by simp)
    unfold putC
    rw [if_neg (by omega)]
    rfl
theorem withL_two {ls : List Int} (h : ∀ l ∈ ls, 2 ≤ l) : withL ls = [ls.map litC] := by rw [withL_no (oneC_two h), clauseC_two h]
theorem gateC_two {n a b : Int} (hn : 2 ≤ n) (ha : 2 ≤ a) (hb : 2 ≤ b) : gateC n a b = [[litC (n + 1), litC a], [litC (n + 1), litC b], [litC n, litC (notI a), litC (notI b)]] := by
  have na := notI_two ha
  have nb := notI_two hb
  unfold gateC
  rw [withL_two (by intro l hl; simp at hl; omega), withL_two (by intro l hl; simp at hl; omega), withL_two (by intro l hl; simp at hl; omega)]
  rfl
theorem gatesC_two {N : Nat} {ps : List (Int × Int)} (h : ∀ k, k < ps.length → 2 ≤ (ps.getD k (0, 0)).2 ∧ 2 ≤ (ps.getD k (0, 0)).1) : ∀ k, k ≤ ps.length → (gatesC N ps k).length = 3 * k ∧ ∀ i, i < k → ((gatesC N ps k).getD (3 * i) []).length = 2 ∧ ((gatesC N ps k).getD (3 * i + 1) []).length = 2 ∧ ((gatesC N ps k).getD (3 * i + 2) []).length = 3
  | 0, _ => ⟨by simp [gatesC_zero], fun i hi => absurd hi (Nat.not_lt_zero _)⟩
  | k + 1, hk => by
    obtain ⟨h1, h2⟩ := gatesC_two h k (by omega)
    obtain ⟨b1, b2⟩ := h k hk
    have hg := gateC_two (n := 2 * ((N : Int) + (k : Int) + 1)) (by omega) b2 b1
    rw [gatesC_succ, hg]
    refine ⟨by rw [List.length_append, h1]; rfl, fun i hi => ?_⟩
    by_cases hik : i < k
    · have e : ∀ r, r < 3 → (gatesC N ps k ++ [[litC (2 * ((N : Int) + (k : Int) + 1) + 1), litC (ps.getD k (0, 0)).1], [litC (2 * ((N : Int) + (k : Int) + 1) + 1), litC (ps.getD k (0, 0)).2], [litC (2 * ((N : Int) + (k : Int) + 1)), litC (notI (ps.getD k (0, 0)).1), litC (notI (ps.getD k (0, 0)).2)]]).getD (3 * i + r) [] = (gatesC N ps k).getD (3 * i + r) [] := fun r hr => by
        simp only [List.getD]
        rw [List.getElem?_append_left (by omega)]
      rw [e 1 (by omega), e 2 (by omega)]
      have e0 := e 0 (by omega)
      rw [Nat.add_zero] at e0
      rw [e0]
      exact h2 i hik
    · have hik2 : i = k := by omega
      subst hik2
      have e : ∀ (ys : List (List Int)) r, (gatesC N ps i ++ ys).getD (3 * i + r) [] = ys.getD r [] := fun ys r => by
        simp only [List.getD]
        rw [List.getElem?_append_right (by omega), show 3 * i + r - (gatesC N ps i).length = r by omega]
      have e0 := e [[litC (2 * ((N : Int) + (i : Int) + 1) + 1), litC (ps.getD i (0, 0)).1], [litC (2 * ((N : Int) + (i : Int) + 1) + 1), litC (ps.getD i (0, 0)).2], [litC (2 * ((N : Int) + (i : Int) + 1)), litC (notI (ps.getD i (0, 0)).1), litC (notI (ps.getD i (0, 0)).2)]] 0
      rw [Nat.add_zero] at e0
      rw [e0, e _ 1, e _ 2]
      exact ⟨rfl, rfl, rfl⟩
theorem forceC_two : ∀ {fs : List Int}, (∀ l ∈ fs, 2 ≤ l) → forceC fs = fs.map fun l => [litC l]
  | [], _ => rfl
  | l :: fs, h => by
    have : forceC (l :: fs) = withL [l] ++ forceC fs := by simp [forceC]
    rw [this, forceC_two (fun x hx => h x (by simp [hx])), withL_two (by intro x hx; rw [List.mem_singleton] at hx; subst hx; exact h x (by simp))]
    rfl
theorem encC_two {N : Nat} {ps : List (Int × Int)} {fs : List Int} (h : ∀ k, k < ps.length → 2 ≤ (ps.getD k (0, 0)).2 ∧ 2 ≤ (ps.getD k (0, 0)).1) (hf : ∀ l ∈ fs, 2 ≤ l) :
    (encC N ps fs).length = 3 * ps.length + fs.length ∧ (∀ i, i < ps.length → ((encC N ps fs).getD (3 * i) []).length = 2 ∧ ((encC N ps fs).getD (3 * i + 1) []).length = 2 ∧ ((encC N ps fs).getD (3 * i + 2) []).length = 3) ∧ ∀ i, i < fs.length → (encC N ps fs).getD (3 * ps.length + i) [] = [litC (fs.getD i 0)] := by
  obtain ⟨h1, h2⟩ := gatesC_two (N := N) h ps.length (Nat.le_refl _)
  unfold encC
  rw [forceC_two hf]
  refine ⟨by rw [List.length_append, h1, List.length_map], fun i hi => ?_, fun i hi => ?_⟩
  · have e : ∀ r, r < 3 → (gatesC N ps ps.length ++ fs.map fun l => [litC l]).getD (3 * i + r) [] = (gatesC N ps ps.length).getD (3 * i + r) [] := fun r hr => by
      simp only [List.getD]
      rw [List.getElem?_append_left (by omega)]
    have e0 := e 0 (by omega)
    rw [Nat.add_zero] at e0
    rw [e0, e 1 (by omega), e 2 (by omega)]
    exact h2 i hi
  · simp only [List.getD]
    rw [List.getElem?_append_right (by omega), show 3 * ps.length + i - (gatesC N ps ps.length).length = i by omega]
    simp [hi]
/-- No clause is longer than three. -/
theorem encC_short {N : Nat} {ps : List (Int × Int)} {fs : List Int} : ∀ c ∈ encC N ps fs, c.length ≤ 3 := by
  have hw : ∀ ls : List Int, ls.length ≤ 3 → ∀ c ∈ withL ls, c.length ≤ 3 := fun ls hl c hc => by
    unfold withL at hc
    split at hc
    · cases hc
    · rw [List.mem_singleton] at hc
      subst hc
      exact Nat.le_trans (clauseC_len ls) hl
  intro c hc
  unfold encC at hc
  rcases List.mem_append.1 hc with hc | hc
  · unfold gatesC at hc
    obtain ⟨i, _, hc⟩ := List.mem_flatMap.1 hc
    unfold gateC at hc
    rcases List.mem_append.1 hc with hc | hc
    · exact hw _ (by simp) c hc
    · rcases List.mem_append.1 hc with hc | hc
      · exact hw _ (by simp) c hc
      · exact hw _ (by simp) c hc
  · unfold forceC at hc
    obtain ⟨l, _, hc⟩ := List.mem_flatMap.1 hc
    exact hw _ (by simp) c hc
end Go.Proofs.YtmgepagdkfghlaaDoor

namespace Go.Proofs.YtmgepagdkfghlaaDoor
open Go.RowKit

set_option maxHeartbeats 400000 in
theorem refIs_any (l v : Int) (w : World) (h1 : -9223372036854775807 ≤ l) (h2 : l ≤ 9223372036854775807) (hv1 : -9223372036854775808 ≤ v) (hv2 : v ≤ 9223372036854775807) :
    Calls Tryd.prog 45 #[.int .i64 l, .int .i64 v] w fun e w' => e = .returned (.bool (isB v l)) ∧ w = w' := by
  have H := Lib.hid (show isB v l = decide (l ≠ 0 ∧ l ≤ v ∧ -v ≤ l) from by
    unfold isB absI; rw [Bool.eq_iff_iff]; simp; split <;> omega)
  generalize isB v l = r at *
  by_cases h0 : l = 0
  · subst h0
    go_enter Tryd.func45, Tryd.ntmps45
    go_wp2
    go_ret
    exact ⟨ret_bool (by rw [H.out]; simp), rfl⟩
  have hb0 : (l == 0) = false := by simp [h0]
  have hb0' : (l != 0) = true := by simp [h0]
  by_cases hle : l ≤ v
  · have hd : decide (l ≤ v) = true := by simp [hle]
    go_enter Tryd.func45, Tryd.ntmps45
    go_wp2
    go_ret
    exact ⟨ret_bool (by rw [H.out]; simp [h0, hle]), rfl⟩
  · have hd : decide (l ≤ v) = false := by simp; omega
    go_enter Tryd.func45, Tryd.ntmps45
    go_wp2
    go_ret
    exact ⟨ret_bool (by rw [H.out]; simp; omega), rfl⟩

end Go.Proofs.YtmgepagdkfghlaaDoor

namespace Go.Proofs.YtmgepagdkfghlaaDoor
open Go.RowKit

/-- A fault as a value. -/
def faultV (c : Int) (p : Bool) (k : Int) : Value := .agg #[.int .i64 c, .bool p, .int .i64 k]

set_option maxHeartbeats 400000 in
theorem none_any (w : World) : Calls Tryd.prog 30 #[] w fun e w' => e = .returned (faultV 0 false 0) ∧ Below w.heap.size w w' := by
  go_enter Tryd.func30, Tryd.ntmps30
  go_wp2
  exact bodyPost_ret (v := faultV 0 false 0) (by simp [results, Tryd.results30, go_sem, faultV]) rfl ⟨rfl, ((Below.refl _ w).alloc (Nat.le_refl _) _)⟩

set_option maxHeartbeats 400000 in
theorem bare_any (c : Int) (w : World) : Calls Tryd.prog 31 #[.int .i64 c] w fun e w' => e = .returned (faultV c false 0) ∧ Below w.heap.size w w' := by
  go_enter Tryd.func31, Tryd.ntmps31
  go_wp2
  exact bodyPost_ret (v := faultV c false 0) (by simp [results, Tryd.results31, go_sem, faultV]) rfl ⟨rfl, ((Below.refl _ w).alloc (Nat.le_refl _) _)⟩

set_option maxHeartbeats 400000 in
theorem placed_any (c k : Int) (w : World) (hc : c ≠ 0) : Calls Tryd.prog 33 #[.int .i64 c, .int .i64 k] w fun e w' => e = .returned (faultV c true k) ∧ Below w.heap.size w w' := by
  have hcb : (c == 0) = false := by simp [hc]
  go_enter Tryd.func33, Tryd.ntmps33
  go_wp2
  exact bodyPost_ret (v := faultV c true k) (by simp [results, Tryd.results33, go_sem, faultV]) rfl ⟨rfl, ((Below.refl _ w).alloc (Nat.le_refl _) _)⟩

set_option maxHeartbeats 1000000 in
theorem sameFault_yes (c : Int) (p : Bool) (k : Int) (w : World) : Calls Tryd.prog 51 #[faultV c p k, faultV c p k] w fun e w' => e = .returned (.bool true) ∧ Below w.heap.size w w' := by
  unfold faultV
  have h1 : (c == c) = true := by simp
  have h2 : (p == p) = true := by simp
  have h3 : (k == k) = true := by simp
  go_enter Tryd.func51, Tryd.ntmps51
  go_wp2
  go_ret
  exact ⟨rfl, ((Below.refl _ w).alloc (Nat.le_refl _) _).alloc (by simp) _⟩

set_option maxHeartbeats 1000000 in
theorem sentinels_any (A : Nat → Addr) (w : World) (h : Sents w A) : Calls Tryd.prog 47 #[] w fun e w' => e = .returned (.slice (some ⟨w.heap.size, 0, none⟩) 7 7) ∧ Below w.heap.size w w' ∧ ∀ i, i < 7 → w'.cell? ⟨w.heap.size, i, none⟩ = some (sentV A i) := by
  have h0 := h.c0; have h1 := h.c1; have h2 := h.c2; have h3 := h.c3; have h4 := h.c4; have h5 := h.c5; have h6 := h.c6
  clear h
  go_enter Tryd.func47, Tryd.ntmps47
  go_wp2
  go_ret
  refine ⟨rfl, (Below.refl _ w).alloc (Nat.le_refl _) _, fun i hi => ?_⟩
  rw [World.cell?_alloc_at _ _ _ _ rfl]
  match i, hi with
  | 0, _ => rfl
  | 1, _ => rfl
  | 2, _ => rfl
  | 3, _ => rfl
  | 4, _ => rfl
  | 5, _ => rfl
  | 6, _ => rfl

theorem compES : (Tryd.prog.info? 90).map (·.comparable) = some true := by kernel_rfl
theorem sizeES : (Tryd.prog.info? 107).map (·.size) = some 1 := by kernel_rfl

set_option maxHeartbeats 1000000 in
theorem alike_same (A : Nat → Addr) (i : Nat) (w : World) : Calls Tryd.prog 48 #[sentV A i, sentV A i] w fun e w' => e = .returned (.bool true) ∧ w = w' := by
  obtain ⟨ip, hi, hc⟩ := Option.map_eq_some_iff.1 compES
  obtain ⟨jp, hj, hs⟩ := Option.map_eq_some_iff.1 sizeES
  have heq := run_eql_iface_ptr_same (P := Tryd.prog) w (A i) Tryd.underlying31 Tryd.underlying90 hi hc hj
  clear hi hc hj hs
  unfold sentV
  generalize A i = a at *
  go_enter Tryd.func48, Tryd.ntmps48
  go_wp2
  go_ret
  exact ⟨rfl, rfl⟩

set_option maxHeartbeats 1000000 in
theorem alike_other (A : Nat → Addr) (i j : Nat) (w : World) (h : Sents w A) (h1 : i < 7) (h2 : j < 7) (hne : i ≠ j) : Calls Tryd.prog 48 #[sentV A i, sentV A j] w fun e w' => e = .returned (.bool false) ∧ w = w' := by
  obtain ⟨ip, hi, hc⟩ := Option.map_eq_some_iff.1 compES
  obtain ⟨jp, hj, hs⟩ := Option.map_eq_some_iff.1 sizeES
  obtain ⟨c1, t1, r1⟩ := h.row i h1
  obtain ⟨c2, t2, r2⟩ := h.row j h2
  have heq := run_eql_iface_ptr_other (P := Tryd.prog) w Tryd.underlying31 Tryd.underlying90 hi hc hj (by rw [hs]; decide) (h.ne i j h1 h2 hne) r1 r2
  clear hi hc hj hs r1 r2 h h1 h2
  unfold sentV
  generalize A i = a at *
  generalize A j = b at *
  go_enter Tryd.func48, Tryd.ntmps48
  go_wp2
  go_ret
  exact ⟨rfl, rfl⟩

set_option maxHeartbeats 1000000 in
theorem sentinel_any (A : Nat → Addr) (i : Nat) (w : World) (h : Sents w A) (hi : i < 7) : Calls Tryd.prog 32 #[sentV A i] w fun e w' => e = .returned (.int .i64 (101 + (i : Int))) ∧ Below w.heap.size w w' := by
  have HS := Lib.hid (sentinels_any A w h)
  have HA := Lib.hid (fun W (hW : Below w.heap.size w W) (j : Nat) (hj : j < 7) (hne : i ≠ j) => alike_other A i j W (h.keep hW) hi hj hne)
  have HB := Lib.hid (fun W => alike_same A i W)
  clear h
  go_enter Tryd.func32, Tryd.ntmps32
  go_wp2_with fail
  refine HS.out.mono ?_
  rintro e w1 ⟨rfl, hb, hc⟩
  have HC := Lib.hid hc; clear hc
  go_wp2_with fail
  go_loop [4] (fun v => ∃ k : Nat, k ≤ i ∧ v = .int .i64 k) (fun v => i - (intOf v).toNat)
  case atStart => exact ⟨0, Nat.zero_le _, rfl⟩
  case round =>
    obtain ⟨k, hk, rfl⟩ := hrel
    have g1 := HC.out k (by omega)
    by_cases hlt : k < i
    · have hcon := Lib.hid (HA.out w1 hb k (by omega) (by omega))
      generalize sentV A k = vk at *
      generalize sentV A i = vi at *
      go_wp2_with (go_at_call 48; refine hcon.out.mono ?_; rintro e w' ⟨rfl, rfl⟩)
      go_round
      case rel => exact ⟨k + 1, by omega, by go_num⟩
      case measure => simp [intOf]; omega
    · obtain rfl : k = i := by omega
      have hcon := Lib.hid (HB.out w1)
      generalize sentV A k = vk at *
      go_wp2_with (go_at_call 48; refine hcon.out.mono ?_; rintro e w' ⟨rfl, rfl⟩)
      go_ret
      exact ⟨rfl, hb⟩
end Go.Proofs.YtmgepagdkfghlaaDoor

namespace Go.Proofs.YtmgepagdkfghlaaDoor
open Go.RowKit

def nearB (l : Int) : Bool := !decide (l < -1152921504606846976)
theorem nearB_iff (l : Int) : nearB l = true ↔ -1152921504606846976 ≤ l := by unfold nearB; simp

end Go.Proofs.YtmgepagdkfghlaaDoor

namespace Go.Proofs.YtmgepagdkfghlaaDoor
open Go.RowKit

theorem sumTo_bd (xss : List (List Int)) (M : Nat) (h : ∀ xs ∈ xss, xs.length ≤ M) : ∀ k, k ≤ xss.length → sumTo xss k ≤ k * M
  | 0, _ => by simp [sumTo]
  | k + 1, hk => by
    rw [sumTo_succ _ _ (by omega)]
    have h1 := sumTo_bd xss M h k (by omega)
    have h2 : (xss.getD k []).length ≤ M := h _ (by simp [List.getD, show k < xss.length by omega])
    rw [Nat.add_mul]
    omega

/-- What the document's Check leaves. -/
def RefCheckPost (w : World) (vars : Int) (xss : List (List Int)) (e : Ending) (w' : World) : Prop :=
  ∃ c p k, e = .returned (faultV c p k) ∧ CheckF vars xss c p k ∧ Below w.heap.size w w'

set_option maxHeartbeats 4000000 in
theorem refCheck_any (vars : Int) (a : Option Addr) (cap : Nat) (xss : List (List Int)) (w : World) (hv1 : -9223372036854775808 ≤ vars) (hv2 : vars ≤ 9223372036854775807) (hr : RowsAt w a cap xss)
    (hint : ∀ xs ∈ xss, ∀ l ∈ xs, -9223372036854775807 ≤ l ∧ l ≤ 9223372036854775807) (hn : xss.length ≤ 200) (hlen : ∀ xs ∈ xss, xs.length ≤ 1000000) :
    Calls Tryd.prog 26 #[.agg #[.int .i64 vars, .slice a xss.length cap]] w (RefCheckPost w vars xss) := by
  obtain ⟨hc1, hc2, hr⟩ := hr
  unfold maxLen at hc2
  have HBD := Lib.hid (sumTo_bd xss _ hlen)
  have HR := Lib.hid hr; clear hr
  have HI := Lib.hid hint; clear hint
  have HLEN := Lib.hid hlen; clear hlen
  have HBA := Lib.hid (fun W => bare_any 102 W)
  have HPL := Lib.hid (fun k W => placed_any 104 k W (by omega))
  have HNO := Lib.hid none_any
  have hbw : Below w.heap.size w ((w.alloc (.cells #[.int .i64 vars, .slice a xss.length cap] 29)).alloc (.cells #[.int .i64 0, .bool false, .int .i64 0] 35)) := ((Below.refl _ w).alloc (Nat.le_refl _) _).alloc (by simp) _
  generalize hN : xss.length = n at *
  have HN := Lib.hid hN; clear hN
  go_enter Tryd.func26, Tryd.ntmps26
  go_wp2_with fail
  go_loop [3, 4] (fun s i => ∃ k : Nat, k ≤ n ∧ i = .int .i64 k ∧ s = .int .i64 (sumTo xss k)) (fun _ i => n - (intOf i).toNat)
  case atStart => exact ⟨0, Nat.zero_le _, rfl, by simp [sumTo]⟩
  case round =>
    obtain ⟨k, hk, rfl, rfl⟩ := hrel
    by_cases hlt : k < n
    · obtain ⟨b, off, ha, hb, hc⟩ := HR.out.resolve_left (by omega)
      subst ha
      obtain ⟨v, g1, hv⟩ := hc k hlt
      clear hc
      have hkl : k < xss.length := by rw [HN.out]; exact hlt
      have HSU := Lib.hid (sumTo_succ xss k hkl)
      have hs1 := HBD.out k hk
      have hle : (xss.getD k []).length ≤ 1000000 := HLEN.out _ (by simp [List.getD, hkl])
      have hs2 : sumTo xss k ≤ 200 * 1000000 := Nat.le_trans hs1 (Nat.mul_le_mul_right _ (by omega))
      clear hkl hs1
      obtain ⟨av, cv, rfl, hrv⟩ := hv
      clear hrv
      generalize (xss.getD k []).length = m at *
      generalize hsk : sumTo xss k = sk at *
      go_wp2_with fail
      go_round
      case rel => exact ⟨k + 1, by omega, by go_num, by rw [HSU.out]; go_num⟩
      case measure => simp [intOf]; omega
    · have hkn : k = n := by omega
      clear hlt
      subst hkn
      have hs2 : sumTo xss k ≤ 200 * 1000000 := Nat.le_trans (HBD.out k (Nat.le_refl _)) (Nat.mul_le_mul_right _ (by omega))
      generalize hsk : sumTo xss k = sk at *
      have HSK := Lib.hid hsk; clear hsk
      have HTM := Lib.hid (show tooMuch vars xss ↔ (vars < 0 ∨ 4000 < vars ∨ 20000 < k ∨ 80000 < sk) by unfold tooMuch; rw [HN.out, HSK.out])
      clear HBD
      have hd3 : decide (20000 < (k : Int)) = false := by simp; omega
      by_cases hvn : vars < 0
      · have HT := Lib.hid (HTM.out.2 (.inl hvn))
        go_wp2_with (go_at_call 31; refine (HBA.out _).mono ?_; rintro e w2 ⟨rfl, hb2⟩; obtain ⟨hc, hf⟩ := bcell hb2; unfold faultV)
        exact bodyPost_ret (v := .agg #[.int .i64 102, .bool false, .int .i64 0]) (by simp [results, Tryd.results26, go_sem, hc]) rfl ⟨102, false, 0, rfl, .inl ⟨HT.out, rfl, rfl, rfl⟩, (((hbw.trans (hb2.mono hbw.size)).setCell (by simp) _).setCell (by simp) _).setCell (by simp) _⟩
      have hd1 : decide (vars < 0) = false := by simpa using hvn
      by_cases hvp : 4000 < vars
      · have HT := Lib.hid (HTM.out.2 (.inr (.inl hvp)))
        have hd2 : decide (4000 < vars) = true := by simp [hvp]
        go_wp2_with (go_at_call 31; refine (HBA.out _).mono ?_; rintro e w2 ⟨rfl, hb2⟩; obtain ⟨hc, hf⟩ := bcell hb2; unfold faultV)
        exact bodyPost_ret (v := .agg #[.int .i64 102, .bool false, .int .i64 0]) (by simp [results, Tryd.results26, go_sem, hc]) rfl ⟨102, false, 0, rfl, .inl ⟨HT.out, rfl, rfl, rfl⟩, (((hbw.trans (hb2.mono hbw.size)).setCell (by simp) _).setCell (by simp) _).setCell (by simp) _⟩
      have hd2 : decide (4000 < vars) = false := by simpa using hvp
      by_cases hsp : 80000 < sk
      · have HT := Lib.hid (HTM.out.2 (.inr (.inr (.inr hsp))))
        have hd4 : decide (80000 < (sk : Int)) = true := by simp; omega
        go_wp2_with (go_at_call 31; refine (HBA.out _).mono ?_; rintro e w2 ⟨rfl, hb2⟩; obtain ⟨hc, hf⟩ := bcell hb2; unfold faultV)
        exact bodyPost_ret (v := .agg #[.int .i64 102, .bool false, .int .i64 0]) (by simp [results, Tryd.results26, go_sem, hc]) rfl ⟨102, false, 0, rfl, .inl ⟨HT.out, rfl, rfl, rfl⟩, (((hbw.trans (hb2.mono hbw.size)).setCell (by simp) _).setCell (by simp) _).setCell (by simp) _⟩
      have hd4 : decide (80000 < (sk : Int)) = false := by simp; omega
      have HNT := Lib.hid (show ¬ tooMuch vars xss from fun h => by have := HTM.out.1 h; omega)
      go_wp2_with fail
      clear hd1 hd2 hd4 hd3 hvn hvp hsp hs2 HTM
      go_loopw [5, 6] (fun i _ wr => ∃ q t : Nat, q ≤ k ∧ i = .int .i64 q ∧ wr = ((w.alloc (.cells #[.int .i64 vars, .slice a k cap] 29)).alloc (.cells #[.int .i64 0, .bool false, .int .i64 0] 35)).drewN t ∧ Hid (∀ j, j < q → ∀ l ∈ xss.getD j [], isB vars l = true)) (fun i _ _ => k - (intOf i).toNat)
      case atStart => exact ⟨0, 0, Nat.zero_le _, rfl, rfl, fun j hj => absurd hj (Nat.not_lt_zero _)⟩
      case round =>
        obtain ⟨q, t, hq, rfl, rfl, HQ⟩ := hrel
        by_cases hlt : q < k
        · obtain ⟨b, off, ha, hb, hc⟩ := HR.out.resolve_left (by omega)
          subst ha
          obtain ⟨v, g1, hv⟩ := hc q hlt
          clear hc
          have hkl : q < xss.length := by rw [HN.out]; exact hlt
          have hmem : xss.getD q [] ∈ xss := by simp [List.getD, hkl]
          have hle : (xss.getD q []).length ≤ 1000000 := HLEN.out _ hmem
          have HIK := Lib.hid (HI.out _ hmem)
          clear hmem
          generalize hys : xss.getD q [] = ys at *
          have HYS := Lib.hid hys; clear hys
          obtain ⟨av, cv, rfl, hrv1, hrv2, hrv⟩ := hv
          have HRV := Lib.hid hrv; clear hrv
          unfold maxLen at hrv2
          generalize hm : ys.length = m at *
          have HM := Lib.hid hm; clear hm
          have HKL := Lib.hid hkl; clear hkl
          go_wp2_with fail
          go_loopw [6] (fun i wr => ∃ j t : Nat, j ≤ m ∧ i = .int .i64 j ∧ wr = ((w.alloc (.cells #[.int .i64 vars, .slice (some ⟨b, off, none⟩) k cap] 29)).alloc (.cells #[.int .i64 0, .bool false, .int .i64 0] 35)).drewN t ∧ Hid (∀ i, i < j → isB vars (ys.getD i 0) = true)) (fun i _ => m - (intOf i).toNat)
          case atStart => exact ⟨0, t, Nat.zero_le _, rfl, rfl, fun j hj => absurd hj (Nat.not_lt_zero _)⟩
          case round =>
            obtain ⟨j, t2, hj, rfl, rfl, HP⟩ := hrel
            by_cases hjl : j < m
            · obtain ⟨b2, off2, ha2, hb2, hc2'⟩ := HRV.out.resolve_left (by omega)
              subst ha2
              have g2 : w.cell? ⟨b2, off2 + j, none⟩ = some (.int .i64 (ys.getD j 0)) := hc2' j hjl
              clear hc2'
              have hjy : j < ys.length := by rw [HM.out]; exact hjl
              have hmem2 : ys.getD j 0 ∈ ys := by simp [List.getD, hjy]
              obtain ⟨hl1, hl2⟩ := HIK.out _ hmem2
              have HME := Lib.hid hmem2; clear hmem2 hjy
              generalize hlj : ys.getD j 0 = l at *
              have HLJ := Lib.hid hlj; clear hlj
              have HIS := Lib.hid (fun W => refIs_any l vars W hl1 hl2 hv1 hv2)
              obtain ⟨r, hr⟩ : ∃ r, isB vars l = r := ⟨_, rfl⟩
              rw [hr] at HIS
              have HRR := Lib.hid hr; clear hr
              cases r with
              | true =>
                go_wp2_with fail
                go_quiet ((go_at_call 45; refine (HIS.out _).mono ?_; rintro e w' ⟨rfl, rfl⟩; exact ⟨rfl, _, rfl⟩))
                go_wp2
                go_roundw
                case rel =>
                  refine ⟨j + 1, _, by omega, by go_num, rfl, fun i hi => ?_⟩
                  by_cases e : i = j
                  · rw [e, HLJ.out]; exact HRR.out
                  · exact HP.out i (by omega)
                case measure => simp [intOf]; omega
              | false =>
                have HFB := Lib.hid (show firstBad vars xss q from ⟨HKL.out, HQ.out, l, by rw [HYS.out]; exact HME.out, HRR.out⟩)
                go_wp2_with fail
                go_quiet ((go_at_call 45; refine (HIS.out _).mono ?_; rintro e w' ⟨rfl, rfl⟩; exact ⟨rfl, _, rfl⟩))
                go_wp2_with (go_at_call 33; refine (HPL.out _ _).mono ?_; rintro e w2 ⟨rfl, hb2⟩; obtain ⟨hc, hf⟩ := bcell hb2; unfold faultV)
                exact bodyPost_ret (v := .agg #[.int .i64 104, .bool true, .int .i64 q]) (by simp [results, Tryd.results26, go_sem, hc]) rfl ⟨104, true, q, rfl, .inr (.inl ⟨HNT.out, q, HFB.out, rfl, rfl, rfl⟩), (((hbw.trans ((below_draws ⟨_, rfl⟩).trans hb2 |>.mono hbw.size)).setCell (by simp) _).setCell (by simp) _).setCell (by simp) _⟩
            · have hjm : j = m := by omega
              have HALL := Lib.hid (show ∀ j', j' < q + 1 → ∀ l ∈ xss.getD j' [], isB vars l = true from by
                intro j' hj' l hl
                by_cases e : j' = q
                · rw [e, HYS.out] at hl
                  obtain ⟨i, hi, rfl⟩ := List.getElem_of_mem hl
                  have := HP.out i (by rw [HM.out] at hi; omega)
                  simpa [List.getD, hi] using this
                · exact HQ.out j' (by omega) l hl)
              clear hjl
              go_wp2_with fail
              go_roundw
              case rel => exact ⟨q + 1, _, by omega, by go_num, rfl, HALL.out⟩
              case measure => simp [intOf]; omega
        · have hkn : q = k := by omega
          have HALL := Lib.hid (show allIs vars xss from by
            intro xs hxs l hl
            obtain ⟨i, hi, rfl⟩ := List.getElem_of_mem hxs
            exact HQ.out i (by rw [HN.out] at hi; omega) l (by simpa [List.getD, hi] using hl))
          clear hlt
          go_wp2_with (go_at_call 30; refine (HNO.out _).mono ?_; rintro e w2 ⟨rfl, hb2⟩; obtain ⟨hc, hf⟩ := bcell hb2; unfold faultV)
          exact bodyPost_ret (v := .agg #[.int .i64 0, .bool false, .int .i64 0]) (by simp [results, Tryd.results26, go_sem, hc]) rfl ⟨0, false, 0, rfl, .inr (.inr ⟨HNT.out, HALL.out, rfl, rfl, rfl⟩), (((hbw.trans ((below_draws ⟨_, rfl⟩).trans hb2 |>.mono hbw.size)).setCell (by simp) _).setCell (by simp) _).setCell (by simp) _⟩
end Go.Proofs.YtmgepagdkfghlaaDoor

namespace Go.Proofs.YtmgepagdkfghlaaDoor
open Go.RowKit

theorem ints2_any (v : Value) (xs : List Int) (w : World) (hv : Row w v xs) (hn : xs.length ≤ 1000000) :
    Calls Tryd.prog 44 #[v] w fun e w' => (∃ u, e = .returned u ∧ w'.ownsRow w.heap.size 3 1 u xs.length (xs.map (Value.int .i64))) ∧ Below w.heap.size w w' :=
  (ints_any v xs w hv (by omega)).mono fun e w' ⟨u, h1, h2, h3⟩ => ⟨⟨u, h1, h2⟩, h3⟩

set_option maxRecDepth 8000 in
set_option maxHeartbeats 4000000 in
theorem rcirc_any {v : Value} {S : List Nat} {g : Gr} (w : World) (h : RgM w v S g) (o : Value) (os : List Int) (ho : Row w o os) (hn : os.length ≤ 1000000) :
    Calls Tryd.prog 25 #[v, o] w (CirPost w (g.n : Int) g.ands os) := by
  obtain ⟨p, u, h⟩ := h
  obtain rfl := h.val
  have hga : g.ands.length ≤ 8000 := by have := h.len; unfold Gr.len at this; omega
  have HPR := Lib.hid (own_prow h.row)
  obtain ⟨ao, co, rfl, _, _⟩ := row_shape h.row
  have hpl : p < w.heap.size := h.lt p (by rw [h.foot]; simp)
  have c0 := h.c0
  have c1 := h.c1
  have HP : Hid (∀ W, Below w.heap.size w W → W.cell? ⟨p, 0, none⟩ = some (.int .i64 (g.n : Int)) ∧ W.cell? ⟨p, 1, none⟩ = some (.slice ao g.ands.length co)) := fun W hW => ⟨(hW.cell (p := ⟨p, 0, none⟩) hpl).trans c0, (hW.cell (p := ⟨p, 1, none⟩) hpl).trans c1⟩
  have HC1 := Lib.hid (fun W (hW : Below w.heap.size w W) => pairs_any _ g.ands W (HPR.out.keep hW) (by omega))
  have HC2 := Lib.hid (fun W (hW : Below w.heap.size w W) => ints2_any o os W (ho.keep hW) hn)
  obtain ⟨a0, n0, k0, rfl⟩ : ∃ a n c, o = .slice a n c := by obtain ⟨a, c, rfl, _⟩ := ho; exact ⟨_, _, _, rfl⟩
  have HV : Hid (∀ W, Below (w.heap.size + 1) (w.alloc (.cells #[.int .i64 0, .slice none 0 0, .slice none 0 0] 25)) W → Below w.heap.size w W) := fun W hW => ((Below.refl _ w).alloc (Nat.le_refl _) _).trans (hW.mono (by omega))
  have HZ : Hid (∀ W, Below (w.heap.size + 1) (w.alloc (.cells #[.int .i64 0, .slice none 0 0, .slice none 0 0] 25)) W → (W.cell? ⟨w.heap.size, 0, none⟩ = some (.int .i64 0) ∧ W.cell? ⟨w.heap.size, 1, none⟩ = some (.slice none 0 0) ∧ W.cell? ⟨w.heap.size, 2, none⟩ = some (.slice none 0 0)) ∧ (∀ k, W.frozen? ⟨w.heap.size, k, none⟩ = false) ∧ w.heap.size < W.heap.size) := fun W hW => by
    refine ⟨⟨?_, ?_, ?_⟩, fun k => ?_, by have := hW.size; simp at this; omega⟩
    · rw [hW.cell (p := ⟨w.heap.size, 0, none⟩) (by simp), cell_of_row _ _ 0 _ 25 (0, 0) (heap_alloc_new _ _)]; rfl
    · rw [hW.cell (p := ⟨w.heap.size, 1, none⟩) (by simp), cell_of_row _ _ 1 _ 25 (0, 0) (heap_alloc_new _ _)]; rfl
    · rw [hW.cell (p := ⟨w.heap.size, 2, none⟩) (by simp), cell_of_row _ _ 2 _ 25 (0, 0) (heap_alloc_new _ _)]; rfl
    · rw [hW.frozen (p := ⟨w.heap.size, k, none⟩) (by simp)]
      have := heap_alloc_new w (.cells #[.int .i64 0, .slice none 0 0, .slice none 0 0] 25)
      simp only [World.frozen?, this]
      simp
  clear h ho hn hga c0 c1 hpl
  have HGA := Lib.hid (show g.ands.length = g.ands.length from rfl)
  go_enter Tryd.func25, Tryd.ntmps25
  go_wp2_with fail
  have hV0 : Below (w.heap.size + 1) (w.alloc (.cells #[.int .i64 0, .slice none 0 0, .slice none 0 0] 25)) (w.alloc (.cells #[.int .i64 0, .slice none 0 0, .slice none 0 0] 25)).drew := (Below.refl _ _).drew
  have HS0 : Hid (w.heap.size + 1 ≤ (w.alloc (.cells #[.int .i64 0, .slice none 0 0, .slice none 0 0] 25)).drew.heap.size) := by unfold Hid; simp
  go_region_held3 (fun W => W.cell? ⟨p, 0, none⟩ = some (.int .i64 (g.n : Int)) ∧ W.cell? ⟨p, 1, none⟩ = some (.slice ao g.ands.length co)) (first | exact HP.out _ (HV.out _ hV0) | exact HP.out _ (HV.out _ hVA) | exact HP.out _ (HV.out _ hVB) | exact HP.out _ ((((HV.out _ hVB).setCell (by simp) _).setCell (by simp) _).setCell (by simp) _) | exact HP.out _ ((((HV.out _ hVA).setCell (by simp) _).setCell (by simp) _).setCell (by simp) _)) (first
    | (go_at_call 43; refine (HC1.out _ (by first | exact HV.out _ hV0 | exact HV.out _ hVB)).mono ?_; rintro e wA ⟨⟨uA, rfl, hPA⟩, hbA⟩; have HPA := Lib.hid (own_base hPA (show w.heap.size + 1 ≤ _ by first | exact HS0.out | exact zBs)); have HBA := Lib.hid hbA; have hVA : Below (w.heap.size + 1) (w.alloc (.cells #[.int .i64 0, .slice none 0 0, .slice none 0 0] 25)) wA := Below.trans (by first | exact hV0 | exact hVB) (hbA.mono (by first | exact HS0.out | exact zBs)); obtain ⟨⟨zA0, zA1, zA2⟩, zAf, zAs⟩ := HZ.out _ hVA; obtain ⟨aA, cA, rfl, _⟩ := row_shape hPA; clear hPA hbA)
    | (go_at_call 44; refine (HC2.out _ (by first | exact HV.out _ hV0 | exact HV.out _ hVA)).mono ?_; rintro e wB ⟨⟨uB, rfl, hPB⟩, hbB⟩; have HPB := Lib.hid (own_base hPB (show w.heap.size + 1 ≤ _ by first | exact HS0.out | exact zAs)); have HBB := Lib.hid hbB; have hVB : Below (w.heap.size + 1) (w.alloc (.cells #[.int .i64 0, .slice none 0 0, .slice none 0 0] 25)) wB := Below.trans (by first | exact hV0 | exact hVA) (hbB.mono (by first | exact HS0.out | exact zAs)); obtain ⟨⟨zB0, zB1, zB2⟩, zBf, zBs⟩ := HZ.out _ hVB; obtain ⟨aB, cB, rfl, _⟩ := row_shape hPB; clear hPB hbB))
  all_goals
    go_wp2_with fail
    have hA := by first | exact own_keep HPA.out HBB.out | exact HPA.out
    have hB := by first | exact own_keep HPB.out HBA.out | exact HPB.out
    exact bodyPost_ret (v := circV (g.n : Int) (.slice aA g.ands.length cA) (.slice aB os.length cB)) (by first | (simp [results, Tryd.results25, go_sem, circV, zB0, zB1, zB2]; done) | (simp [results, Tryd.results25, go_sem, circV, zA0, zA1, zA2]; done)) rfl ⟨⟨_, _, rfl, cir_set hA _ _ _, cir_set hB _ _ _⟩, (((by first | exact HV.out _ hVB | exact HV.out _ hVA : Below w.heap.size w _).setCell (by simp) _).setCell (by simp) _).setCell (by simp) _⟩
end Go.Proofs.YtmgepagdkfghlaaDoor

namespace Go.Proofs.YtmgepagdkfghlaaDoor
open Go.RowKit

/-- The circuit's variable and the row of literals to be forced, at any later world. -/
structure Z13 (w : World) (b : Nat) (n : Int) (u v f : Value) (ps : List (Int × Int)) (gs : List Int) (W : World) : Prop where
  cv : CV W b n u v
  pr : PRow W u ps
  vr : Row W v []
  row : Row W f gs
  bw : Below w.heap.size w W
theorem Z13.keep {w : World} {b : Nat} {n : Int} {u v f : Value} {ps : List (Int × Int)} {gs : List Int} {W W' : World} (h : Z13 w b n u v f ps gs W) (hb : Below W.heap.size W W') : Z13 w b n u v f ps gs W' := ⟨h.cv.keep hb, h.pr.keep hb, h.vr.keep hb, h.row.keep hb, bb_step h.bw hb⟩
theorem fldCode13z (p : Bool) (k : Int) (w : World) : (Instr.field 35 (.agg #[.int .i64 0, .bool p, .int .i64 k]) 0).run Tryd.prog w = .ok (.int .i64 0) w := by kernel_rfl
theorem enc_fine {N : Nat} {ps : List (Int × Int)} {fs : List Int} (hok : ∀ k, k < ps.length → okP N k (ps.getD k (0, 0)) = true) (hf : ∀ l ∈ fs, 0 ≤ l ∧ l / 2 ≤ (N : Int) + (ps.length : Int)) (hm : N + ps.length ≤ 100) (hl : (encC N ps fs).length ≤ 200) {c : Int} {p : Bool} {k : Int} (h : CheckF ((N : Int) + (ps.length : Int)) (encC N ps fs) c p k) : c = 0 ∧ p = false ∧ k = 0 := by
  have hin := encC_in hok hf
  have hs := sumTo_bd (encC N ps fs) 3 encC_short (encC N ps fs).length (Nat.le_refl _)
  have hnt : ¬ tooMuch ((N : Int) + (ps.length : Int)) (encC N ps fs) := by unfold tooMuch; omega
  have hall : allIs ((N : Int) + (ps.length : Int)) (encC N ps fs) := fun c hc l hlc => by
    have := hin c hc l hlc
    unfold isB absI
    simp
    split <;> omega
  rcases h with ⟨h1, _⟩ | ⟨_, i, ⟨h1, _, l, h2, h3⟩, _⟩ | ⟨_, _, h1, h2, h3⟩
  · exact absurd h1 hnt
  · have := hall ((encC N ps fs).getD i []) (by simp [List.getD, h1]) l h2
    rw [h3] at this; cases this
  · exact ⟨h1, h2, h3⟩
/-- The literals to be forced: none of the constants. -/
def modsZ (t : Int) (fs : List Int) : List Int := fs.map fun y => 2 + y % t
theorem modsZ_len (t : Int) (fs : List Int) : (modsZ t fs).length = fs.length := by simp [modsZ]
theorem modsZ_take (t : Int) (fs : List Int) (k : Nat) (h : k < fs.length) : (modsZ t fs).take (k + 1) = (modsZ t fs).take k ++ [2 + fs.getD k 0 % t] := by
  unfold modsZ
  rw [← List.map_take, ← List.map_take, List.take_succ_eq_append_getElem h, List.map_append]
  simp [List.getD, h]
theorem modsZ_in (M : Nat) (fs : List Int) (hM : 1 ≤ M) : ∀ x ∈ modsZ (2 * (M : Int)) fs, 2 ≤ x ∧ x / 2 ≤ (M : Int) := fun x hx => by
  unfold modsZ at hx
  obtain ⟨y, _, rfl⟩ := List.mem_map.1 hx
  have h1 := Int.emod_nonneg y (show 2 * (M : Int) ≠ 0 by omega)
  have h2 := Int.emod_lt_of_pos y (show (0 : Int) < 2 * (M : Int) by omega)
  omega
theorem modsZ_ok (M : Nat) (fs : List Int) (hM : 1 ≤ M) : (modsZ (2 * (M : Int)) fs).all (okO M) = true := by
  rw [List.all_eq_true]
  intro x hx
  have := modsZ_in M fs hM x hx
  rw [okO_iff]
  omega

set_option maxRecDepth 8000 in
set_option maxHeartbeats 2000000 in
theorem lawTz_out (A : Nat → Addr) (N : Int) (a2 : Option Addr) (c2 m2 : Nat) (a3 : Option Addr) (c3 m3 : Nat) (w : World) (hS : Sents2 w A) (ho : 60 < m2 ∨ 8 < m3 ∨ N < 1 ∨ 20 < N) :
    Calls Tryd.prog 6 #[.int .i64 N, .slice a2 m2 c2, .slice a3 m3 c3] w fun e w' => e = .returned (.bool true) ∧ Below w.heap.size w w' := by
  have HF := Lib.hid (first13_any A w hS)
  clear hS
  by_cases d1 : 60 < m2
  · have d1' : decide (60 < m2) = true := decide_eq_true d1
    clear ho
    go_enter Tryd.func6, Tryd.ntmps6
    go_wp2_with fail
    refine HF.out.mono ?_
    rintro e w1 ⟨rfl, hb1⟩
    go_wp2_with fail
    go_ret
    exact ⟨rfl, hb1⟩
  · have d1' : decide (60 < m2) = false := decide_eq_false d1
    by_cases d2 : 8 < m3
    · have d2' : decide (8 < m3) = true := decide_eq_true d2
      clear ho
      go_enter Tryd.func6, Tryd.ntmps6
      go_wp2_with fail
      refine HF.out.mono ?_
      rintro e w1 ⟨rfl, hb1⟩
      go_wp2_with fail
      go_ret
      exact ⟨rfl, hb1⟩
    · have d2' : decide (8 < m3) = false := decide_eq_false d2
      by_cases d5 : N < 1
      · clear ho
        go_enter Tryd.func6, Tryd.ntmps6
        go_wp2_with fail
        refine HF.out.mono ?_
        rintro e w1 ⟨rfl, hb1⟩
        go_wp2_with fail
        go_ret
        exact ⟨rfl, hb1⟩
      · have d6 : 20 < N := by omega
        clear ho
        go_enter Tryd.func6, Tryd.ntmps6
        go_wp2_with fail
        refine HF.out.mono ?_
        rintro e w1 ⟨rfl, hb1⟩
        go_wp2_with fail
        go_ret
        exact ⟨rfl, hb1⟩

set_option maxRecDepth 8000 in
set_option maxHeartbeats 8000000 in
theorem lawTz_any (A : Nat → Addr) (N0 : Int) (a2 : Option Addr) (c2 : Nat) (ls : List Int) (a3 : Option Addr) (c3 : Nat) (ts : List Int) (w : World) (hS : Sents2 w A) (hl : RowAt w a2 c2 ls) (hlb : ∀ y ∈ ls, in64 y) (ht : RowAt w a3 c3 ts) (htb : ∀ y ∈ ts, in64 y) :
    Calls Tryd.prog 6 #[.int .i64 N0, .slice a2 ls.length c2, .slice a3 ts.length c3] w fun e w' => e = .returned (.bool true) ∧ Below w.heap.size w w' := by
  by_cases hout : 60 < ls.length ∨ 8 < ts.length ∨ N0 < 1 ∨ 20 < N0
  · exact lawTz_out A N0 a2 c2 ls.length a3 c3 ts.length w hS hout
  have d1 : decide (60 < ls.length) = false := decide_eq_false fun h => hout (.inl h)
  have d2 : decide (8 < ts.length) = false := decide_eq_false fun h => hout (.inr (.inl h))
  have e1 : ¬ 60 < ls.length := fun h => hout (.inl h)
  have e2 : ¬ 8 < ts.length := fun h => hout (.inr (.inl h))
  obtain ⟨N, rfl⟩ : ∃ N : Nat, N0 = (N : Int) := ⟨N0.toNat, by omega⟩
  have e3 : ¬ (N : Int) < 1 := fun h => hout (.inr (.inr (.inl h)))
  have e4 : ¬ (20 : Int) < (N : Int) := fun h => hout (.inr (.inr (.inr h)))
  clear hout
  have HF := Lib.hid (first13_any A w hS)
  have HS := Lib.hid (fun W (hW : Below w.heap.size w W) => hS.keep hW)
  have HMK := Lib.hid (fun W (hW : Below w.heap.size w W) => mkc_any N (.slice a2 ls.length c2) (.slice none 0 0) ls [] W ⟨_, _, rfl, hl.keep hW⟩ (Row.nil _) (by omega) (by omega) (by simp) hlb (by simp))
  have HT : Hid (RowAt w a3 c3 ts) := ht
  have HTB : Hid (∀ k, k < ts.length → in64 (ts.getD k 0)) := fun k hk => htb _ (by simp [List.getD, hk])
  have HFL := Lib.hid (fun t => modsZ_len t ts)
  have HFT := Lib.hid (fun t k hk => modsZ_take t ts k hk)
  have HNL : Hid (1 ≤ N ∧ N ≤ 20 ∧ ls.length ≤ 60 ∧ ts.length ≤ 8) := by unfold Hid; omega
  clear hS hl hlb ht htb
  generalize ls.length = m2 at *
  generalize hm3 : ts.length = m3 at *
  have HM3 := Lib.hid hm3
  clear hm3
  go_enter Tryd.func6, Tryd.ntmps6
  go_wp2_with fail
  refine HF.out.mono ?_
  rintro e w1 ⟨rfl, hb1⟩
  have HM := Lib.hid (HMK.out _ hb1)
  have HB1 := Lib.hid hb1
  clear hb1 HF HMK
  go_wp2_with fail
  refine HM.out.mono ?_
  rintro e w5 ⟨⟨u', v', ps', os', rfl, hu', hv', hck, hpl, hol, hpb, hob⟩, hb5⟩
  obtain rfl : os' = [] := List.eq_nil_of_length_eq_zero hol
  have HB5 := Lib.hid (HB1.out.trans (hb5.mono HB1.out.size))
  have HR5 := Lib.hid (rbuild_ok N u' v' ps' [] w5 hu' hv' (by simp) hck)
  obtain ⟨hnm, hokp, _⟩ := check_zero8 hck
  have hI := InvB.all N ps' hnm
  have hNr := Nrm.build N ps' hnm
  have hgl := hI.len
  have hgn := hI.gn
  obtain ⟨au, cu, rfl, _⟩ := hu'
  obtain ⟨av, cv, rfl, _⟩ := hv'
  clear hck hokp hpb hob hb5 HM HB1
  generalize (buildB N ps').1 = g at *
  unfold circV at *
  generalize ps'.length = m5 at *
  go_wp2_with fail
  refine HR5.out.mono ?_
  rintro e w6 ⟨⟨xv, pv, T, rfl, hR, hTn, hpv⟩, hb6⟩
  obtain ⟨xp, rfl⟩ : ∃ p, xv = .pointer (some ⟨p, 0, none⟩) := by obtain ⟨p, u, h⟩ := hR; exact ⟨p, h.val⟩
  have HC6 := Lib.hid (rcirc_any w6 hR (.slice none 0 0) [] (Row.nil _) (by simp))
  have HB6 := Lib.hid (HB5.out.trans (hb6.mono HB5.out.size))
  obtain ⟨ap, cp, rfl, _, _⟩ := own_shape hpv
  generalize (outsB N ps' []).length = lo at *
  clear hb6 hpv hTn hR HR5 hI
  go_wp2_with fail
  refine HC6.out.mono ?_
  rintro e w7 ⟨⟨u7, v7, rfl, hu7, hv7⟩, hb7⟩
  have HB7 := Lib.hid (HB6.out.trans (hb7.mono HB6.out.size))
  have hcz := nrm_right hNr [] (by simp) (by omega)
  have hg2 := fun k hk => nrm_two hNr k hk
  rw [hgn] at hcz ⊢
  have HA7 : Hid (Below w7.heap.size w7 (w7.alloc (.cells #[.int .i64 (N : Int), u7, v7] 25))) := (Below.refl _ _).alloc (Nat.le_refl _) _
  have HZ7 := Lib.hid (fun W (hW : Below w7.heap.size w7 W) => And.intro ((own_prow hu7).keep hW) ((own_row hv7).keep hW))
  have HCV := Lib.hid (CV.new w7 (N : Int) u7 v7 25)
  obtain ⟨a7, k7, rfl, hk71, hk72⟩ := row_shape hu7
  obtain ⟨b7, l7, rfl, _, _⟩ := row_shape hv7
  unfold maxLen at hk72
  have hM : g.ands.length ≤ 60 := by have := hgl; unfold Gr.len at this; have := HNL.out.2.2.1; omega
  have hN1 := HNL.out.1
  have hN2 := HNL.out.2.1
  have hm38 := HNL.out.2.2.2
  obtain ⟨hzn, hzo, _⟩ := check_zero8 hcz
  generalize g.ands = gp at *
  have HIN := Lib.hid (modsZ_in (N + gp.length) ts (by omega))
  have HOK := Lib.hid (modsZ_ok (N + gp.length) ts (by omega))
  rw [show 2 * ((N + gp.length : Nat) : Int) = 2 * ((N : Int) + (gp.length : Int)) by omega] at HIN HOK
  have HF1 := Lib.hid (HFL.out (2 * ((N : Int) + (gp.length : Int))))
  have HF2 := Lib.hid (HFT.out (2 * ((N : Int) + (gp.length : Int))))
  have NF := Lib.hid (fun y W (h : in64 y) => number_any y (2 * ((N : Int) + (gp.length : Int))) W (by omega) (by omega) h.1 h.2)
  have hq1 : IntKind.i64.wrap ((N : Int) + (gp.length : Int)) = (N : Int) + (gp.length : Int) := IntWalk.i64_in _ (by omega)
  have hq2 : IntKind.i64.wrap (2 * ((N : Int) + (gp.length : Int))) = 2 * ((N : Int) + (gp.length : Int)) := IntWalk.i64_in _ (by omega)
  have HEB := Lib.hid (fun y : Int => And.intro (Int.emod_nonneg y (show 2 * ((N : Int) + (gp.length : Int)) ≠ 0 by omega)) (Int.emod_lt_of_pos y (show (0 : Int) < 2 * ((N : Int) + (gp.length : Int)) by omega)))
  have htb : 0 < 2 * ((N : Int) + (gp.length : Int)) ∧ 2 * ((N : Int) + (gp.length : Int)) ≤ 100000 := by omega
  generalize ht : 2 * ((N : Int) + (gp.length : Int)) = t at *
  generalize modsZ t ts = gs at *
  have HIN2 : Hid (∀ x ∈ gs, 2 ≤ x ∧ x / 2 ≤ (N : Int) + (gp.length : Int)) := fun x hx => by have := HIN.out x hx; omega
  have HTE := Lib.hid (fun W u v f (hW : Below w.heap.size w W) (hu : PRow W u gp) (hv : Row W v []) (hf : Row W f gs) => tenc_ok A N u v f gp [] gs W (HS.out _ hW) hu hv hf (by simp) (okP_in hzn hzo) (by simp) (fun x hx => by have := HIN2.out x hx; exact ⟨by omega, by omega⟩) hcz HOK.out (by rw [HF1.out]; omega))
  have hE2 := encC_two (N := N) (fs := gs) hg2 (fun x hx => (HIN2.out x hx).1)
  have HFN := Lib.hid (fun c p k h => enc_fine (N := N) (ps := gp) (fs := gs) hzo (fun x hx => by have := HIN2.out x hx; omega) (by omega) (by rw [hE2.1, HF1.out]; omega) (c := c) (p := p) (k := k) h)
  have HRF := Lib.hid (fun W a cap (h : RowsAt W a cap (encC N gp gs)) => refCheck_any ((N : Int) + (gp.length : Int)) a cap (encC N gp gs) W (by omega) (by omega) h (fun c hc l hl => by have := encC_in hzo (fun x hx => by have := HIN2.out x hx; omega) c hc l hl; omega) (by rw [hE2.1, HF1.out]; omega) (fun c hc => Nat.le_trans (encC_short c hc) (by omega)))
  have HE2 := Lib.hid hE2
  unfold EncPost at HTE
  rw [show errC A 0 = .nilIface from rfl] at HTE
  generalize encC N gp gs = xs at *
  clear hE2 hg2 hcz hzo hNr hu7 hv7 hb7 hgl hpl HC6 HIN HOK HS hgn
  unfold circV at *
  rw [List.length_nil] at *
  generalize hml : gp.length = M at *
  have HML := Lib.hid hml
  clear hml
  have HTQ := Lib.hid ht
  have HTP := Lib.hid htb
  clear ht htb
  go_wp2_with fail
  generalize w7.alloc (.cells #[.int .i64 (N : Int), .slice a7 M k7, .slice b7 0 l7] 25) = w8 at *
  have HB8 := Lib.hid (bb_step HB7.out HA7.out)
  obtain ⟨ht1, ht2, ht3⟩ := HT.out
  rw [HM3.out] at ht1 ht3
  unfold maxLen at ht2
  have HTR := Lib.hid ht3
  clear ht3 HT
  go_loopw [11, 12] (fun o i wr => ∃ j : Nat, j ≤ m3 ∧ i = .int .i64 (j : Int) ∧ wr.ownsRow w8.heap.size 3 1 o j ((gs.take j).map (Value.int .i64)) ∧ Below w8.heap.size w8 wr) (fun _ i _ => m3 - (intOf i).toNat)
  case atStart => exact ⟨0, Nat.zero_le _, rfl, World.ownsRow_nil _ _ _ _, Below.refl _ _⟩
  case round =>
    obtain ⟨j, hj, rfl, hown, hbr⟩ := hrel
    obtain ⟨ab, cb, rfl, _, hcb⟩ := own_shape hown
    unfold maxLen at hcb
    obtain ⟨z0, z1, z2, zf, zl⟩ := HCV.out.keep hbr
    by_cases hlt : j < m3
    · obtain ⟨b, off, ha, hbl, hcl⟩ := HTR.out.resolve_left (by omega)
      subst ha
      have y0 := ((HB8.out.trans (hbr.mono HB8.out.size)).cell (p := ⟨b, off + j, none⟩) hbl).trans (hcl j hlt)
      have NJ := Lib.hid (fun W => NF.out (ts.getD j 0) W (HTB.out j hlt))
      have HFJ := Lib.hid (HF2.out j hlt)
      obtain ⟨eb1, eb2⟩ := HEB.out (ts.getD j 0)
      obtain ⟨tp1, tp2⟩ := HTP.out
      have htq := HTQ.out
      have hsz := hbr.size
      have HBR := Lib.hid hbr
      have hbl8 : b < w8.heap.size := Nat.lt_of_lt_of_le hbl HB8.out.size
      have hlt7 : w7.heap.size < w8.heap.size := HCV.out.lt
      clear hcl hbr
      generalize ts.getD j 0 = y at *
      generalize y % t = yt at *
      obtain ⟨z, hz⟩ : ∃ z, z = 2 + yt := ⟨_, rfl⟩
      have q3 : IntKind.i64.wrap (2 + yt) = z := by rw [IntWalk.i64_in _ (by omega)]; exact hz.symm
      rw [← hz] at HFJ
      have NJ2 := Lib.hid (NJ.out wr.drew)
      have hBA : Below wr.heap.size wr (wr.drew.alloc (.cells #[.int .i64 z] 3)) := ((Below.refl _ _).drew).alloc (Nat.le_refl _) _
      have HOW := Lib.hid (own_keep hown hBA)
      have HSA : Hid (w8.heap.size ≤ (wr.drew.alloc (.cells #[.int .i64 z] 3)).heap.size) := Nat.le_trans hsz hBA.size
      have HSS := Lib.hid (fun W (hW : Below w8.heap.size wr W) => show W.cell? ⟨w7.heap.size, 1, none⟩ = some (.slice a7 M k7) ∧ W.cell? ⟨b, off + j, none⟩ = some (.int .i64 y) from ⟨(hW.cell (p := ⟨w7.heap.size, 1, none⟩) hlt7).trans z1, (hW.cell (p := ⟨b, off + j, none⟩) hbl8).trans y0⟩)
      have S0 := Lib.hid (HSS.out _ (Below.refl _ _))
      have S1 := Lib.hid (HSS.out _ (Below.refl _ _).drew)
      have S2 := Lib.hid (HSS.out _ (hBA.mono hsz))
      have HF6 := Lib.hid (fun o' w6 (h : w6.ownsRow w8.heap.size 3 1 o' (j + 1) ((gs.take j).map (Value.int .i64) ++ [.int .i64 z])) (ha : App w8.heap.size (wr.drew.alloc (.cells #[.int .i64 z] 3)) w6 (.slice ab j cb) o') => And.intro (HSS.out w6 ((hBA.mono hsz).trans ha.below)) (show w6.ownsRow w8.heap.size 3 1 o' (j + 1) (((gs.take j) ++ [z]).map (Value.int .i64)) ∧ Below w8.heap.size w8 w6 from ⟨by rw [List.map_append]; exact h, HBR.out.trans ((hBA.mono hsz).trans ha.below)⟩))
      clear hz z0 z1 z2 zf zl y0 hown hBA NJ
      go_upto_region 12 with fail
      go_region_held3 (fun W => W.cell? ⟨w7.heap.size, 1, none⟩ = some (.slice a7 M k7) ∧ W.cell? ⟨b, off + j, none⟩ = some (.int .i64 y)) (first | (with_reducible exact S0.out) | (with_reducible exact S1.out) | (with_reducible exact S2.out) | (with_reducible exact S6.out) | (exact S1.out) | (exact S2.out)) (first
        | (go_simp; go_at_call 12; refine NJ2.out.mono ?_; rintro e w' ⟨rfl, rfl⟩)
        | (refine step_appC 23 3 _ 1 8 Tryd.underlying23 infoInt rfl (by decide) (by decide) rfl _ _ rfl _ w8.heap.size (.slice ab j cb) j ((gs.take j).map (Value.int .i64)) (some ⟨wr.heap.size, 0, none⟩) 1 1 [.int .i64 z] HOW.out HSA.out (by omega) rfl (.inr ⟨_, rfl, lit_cells wr.drew z⟩) (lit_one z) rfl rfl ?_; intro o6 w6 hown6 hap6; obtain ⟨hs6, hf6⟩ := HF6.out o6 w6 hown6 hap6; have S6 := Lib.hid hs6; have HR6 := Lib.hid hf6; obtain ⟨a6, c6, rfl, _, _⟩ := own_shape hown6; clear hown6 hap6 hf6 hs6))
      all_goals
        go_wp2_with fail
        go_roundw
      all_goals first
        | exact ⟨j + 1, by omega, by go_num, by rw [HFJ.out]; exact HR6.out.1, HR6.out.2⟩
        | (simp [intOf]; omega)
    · have hjm : j = m3 := by omega
      subst hjm
      have htk : gs.take j = gs := List.take_of_length_le (by rw [HF1.out]; omega)
      rw [htk] at hown
      have HZR : Hid (Z13 w w7.heap.size (N : Int) (.slice a7 M k7) (.slice b7 0 l7) (.slice ab j cb) gp gs wr) := by
        have h7 := HZ7.out wr (HA7.out.trans (hbr.mono HA7.out.size))
        exact ⟨HCV.out.keep hbr, h7.1, h7.2, own_row hown, HB8.out.trans (hbr.mono HB8.out.size)⟩
      have HT9 := Lib.hid (HTE.out wr _ _ _ HZR.out.bw HZR.out.pr HZR.out.vr HZR.out.row)
      clear hown hbr HTR HTB HFT HF2 NF HFL HTE HCV HA7 HZ7 htk hlt hj ht1 hq1 hq2 HEB
      go_wp2_with fail
      refine HT9.out.mono ?_
      rintro e w9 ⟨⟨o9, rfl, hr9⟩, hb9⟩
      have HA9 : Hid (Below w9.heap.size w9 (w9.alloc (.cells #[.int .i64 ((N : Int) + (M : Int)), o9] 29))) := (Below.refl _ _).alloc (Nat.le_refl _) _
      have HZ10 := Lib.hid ((HZR.out.keep hb9).keep HA9.out)
      have HN10 := Lib.hid (NV.new w9 ((N : Int) + (M : Int)) o9 29)
      have HR10 := Lib.hid (hr9.keep HA9.out)
      obtain ⟨ao, co, rfl, _⟩ := hr9.rows
      obtain ⟨hx1, hx2, hx3⟩ := HE2.out
      rw [HF1.out] at hx1 hx3
      have HX2 := Lib.hid hx2
      have HX3 := Lib.hid hx3
      have HLX := Lib.hid hx1
      rw [hx1]
      rw [hx1] at HA9 HZ10 HN10 HR10
      clear z0 z1 z2 zf zl hr9 hb9 HT9 HZR hx1 hx2 hx3 HE2
      go_upto_region 14 with fail
      generalize hLL : 3 * M + j = L at *
      generalize w9.alloc (.cells #[.int .i64 ((N : Int) + (M : Int)), .slice ao L co] 29) = w10 at *
      have HCK := Lib.hid (HRF.out w10 ao co HR10.out.rows_at.2)
      rw [HLX.out] at HCK
      have hw1 : IntKind.i64.wrap (3 * (M : Int)) = 3 * (M : Int) := IntWalk.i64_in _ (by omega)
      have hw2 : IntKind.i64.wrap (3 * (M : Int) + (j : Int)) = (L : Int) := by rw [IntWalk.i64_in _ (by omega)]; omega
      have hw3 : ((L : Int) != (L : Int)) = false := by simp
      obtain ⟨z0, z1, z2, zf, zl⟩ := HZ10.out.cv
      obtain ⟨n0, n1, nl⟩ := HN10.out
      have HLQ := Lib.hid hLL
      clear hLL HRF HA9
      have hfl := fldCode13z false 0
      go_wp2_with fail
      unfold RefCheckPost faultV at HCK
      refine HCK.out.mono ?_
      rintro e w11 ⟨c, p, k, rfl, hcf, hb11⟩
      obtain ⟨rfl, rfl, rfl⟩ := HFN.out _ _ _ hcf
      have HQ := Lib.hid (fun W (hW : Below w11.heap.size w11 W) => And.intro (HZ10.out.keep (hb11.trans (hW.mono hb11.size))) (And.intro (HN10.out.keep (hb11.trans (hW.mono hb11.size))) (HR10.out.keep (hb11.trans (hW.mono hb11.size)))))
      clear hcf hb11 z0 z1 z2 zf zl n0 n1 nl HCK HZ10 HN10 HR10 HFN
      go_wp2_with fail
      clear hw2 hw3 hfl
      go_loopw [15, 16] (fun i _ wr => ∃ t : Nat, t ≤ j ∧ i = .int .i64 (t : Int) ∧ Below w11.heap.size w11 wr) (fun i _ _ => j - (intOf i).toNat)
      case atStart => exact ⟨0, Nat.zero_le _, rfl, Below.refl _ _⟩
      case round =>
        obtain ⟨q, hq, rfl, hbr2⟩ := hrel
        rename World => wq
        by_cases hlt2 : q < j
        · have hQ := HQ.out _ hbr2
          obtain ⟨z0, z1, z2, zf, zl⟩ := hQ.1.cv
          obtain ⟨n0, n1, nl⟩ := hQ.2.1
          obtain ⟨_, _, hro⟩ := hQ.2.2.rows_at.2
          rw [HLX.out] at hro
          obtain ⟨bo, oo, eo, hbo, hco⟩ := hro.resolve_left (by have := HLQ.out; omega)
          subst eo
          obtain ⟨Q, hQQ⟩ : ∃ Q : Nat, Q = 3 * M + q := ⟨_, rfl⟩
          have hQL : Q < L := by have := HLQ.out; omega
          have hq2 : IntKind.i64.wrap (3 * (M : Int) + (q : Int)) = (Q : Int) := by rw [IntWalk.i64_in _ (by omega)]; omega
          have i1 : (0 : Int) ≤ (Q : Int) := Int.natCast_nonneg Q
          have i2 : (Q : Int) < (L : Int) := by omega
          obtain ⟨vd, yd, hvd⟩ := hco Q hQL
          have hX := HX3.out q hlt2
          rw [← hQQ] at hX
          rw [hX] at hvd
          obtain ⟨av2, cv2, rfl, hv1, hv2, hv3⟩ := hvd
          obtain ⟨bv, ov, ev, hbv, hcv⟩ := hv3.resolve_left (by simp)
          subst ev
          have yv := hcv 0 (by simp)
          rw [show ([litC (gs.getD q 0)] : List Int).getD 0 0 = litC (gs.getD q 0) from rfl, Nat.add_zero] at yv
          simp only [List.length_singleton] at hv1
          have hrow := hQ.1.row
          obtain ⟨af, cf, ef, hf1, hf2, hf3⟩ := hrow
          rw [HF1.out] at ef hf1 hf3
          injection ef with ef1 _ ef3
          subst ef1; subst ef3
          obtain ⟨bf, of, eff, hbf, hcf⟩ := hf3.resolve_left (by omega)
          subst eff
          have yf := hcf q hlt2
          have hgm : gs.getD q 0 ∈ gs := by simp [List.getD, show q < gs.length by rw [HF1.out]; exact hlt2]
          have hgi := HIN2.out _ hgm
          clear hco hcv hcf hX hro hQQ hgm hf3 hv3
          generalize gs.getD q 0 = gq at *
          have HLA := Lib.hid (fun W => tlit_any gq W (by omega) (by omega))
          have hnt := notI_two hgi.1
          have hn2 := notI_nat (show 0 ≤ gq by omega)
          have HLN := Lib.hid (fun W => tlit_any (notI gq) W (by omega) (by omega))
          rw [litC_not hgi.1] at HLN
          have hxr := xor_oneI gq (by omega) (by omega)
          have hla := litC_abs hgi.1
          have hlb : -1000000 ≤ litC gq ∧ litC gq ≤ 1000000 := by omega
          clear hla hn2
          generalize litC gq = lq at *
          obtain ⟨lb1, lb2⟩ := hlb
          have k1 : (lq != lq) = false := by simp
          have k2 : (-lq != -lq) = false := by simp
          have k3 : IntKind.i64.wrap (-lq) = -lq := IntWalk.i64_in _ (by omega)
          have HBR2 := Lib.hid hbr2
          clear hbr2 hgi hnt
          simp only [List.length_singleton] at yd
          unfold maxLen at hv2 hf2
          go_upto_region 20 with fail
          clear z0 z1 z2 zf zl n0 n1 nl yd
          go_quiet (first | (go_at_call_of 20 (Value.int IntKind.i64 gq); refine (HLA.out _).mono ?_; rintro e w' ⟨rfl, rfl⟩; exact ⟨rfl, _, rfl⟩) | (go_at_call 20; refine (HLN.out _).mono ?_; rintro e w' ⟨rfl, rfl⟩; exact ⟨rfl, _, rfl⟩))
          go_wp2_with fail
          go_roundw
          case rel => exact ⟨q + 1, by omega, by go_num, below_drewN HBR2.out _⟩
          case measure => simp [intOf]; omega
        · have hqj : q = j := by omega
          subst hqj
          have HBR2 := Lib.hid hbr2
          clear hlt2 hq hbr2
          go_wp2_with fail
          go_loopw [17] (fun i wr => ∃ t : Nat, t ≤ M ∧ i = .int .i64 (t : Int) ∧ Below w11.heap.size w11 wr) (fun i _ => M - (intOf i).toNat)
          case atStart => exact ⟨0, Nat.zero_le _, rfl, HBR2.out⟩
          case round =>
            obtain ⟨r, hr, rfl, hbr3⟩ := hrel
            clear HBR2
            rename World => wz
            have hQ := HQ.out _ hbr3
            obtain ⟨z0, z1, z2, zf, zl⟩ := hQ.1.cv
            by_cases hlt3 : r < M
            · obtain ⟨n0, n1, nl⟩ := hQ.2.1
              obtain ⟨_, _, hro⟩ := hQ.2.2.rows_at.2
              rw [HLX.out] at hro
              obtain ⟨bo, oo, eo, hbo, hco⟩ := hro.resolve_left (by have := HLQ.out; omega)
              subst eo
              obtain ⟨l1, l2, l3⟩ := HX2.out r hlt3
              have hLQ := HLQ.out
              obtain ⟨Q0, hQ0⟩ : ∃ Q : Nat, Q = 3 * r := ⟨_, rfl⟩
              obtain ⟨Q1, hQ1⟩ : ∃ Q : Nat, Q = 3 * r + 1 := ⟨_, rfl⟩
              obtain ⟨Q2, hQ2⟩ : ∃ Q : Nat, Q = 3 * r + 2 := ⟨_, rfl⟩
              rw [← hQ0] at l1
              rw [← hQ1] at l2
              rw [← hQ2] at l3
              obtain ⟨v0, y0, r0⟩ := hco Q0 (by omega)
              obtain ⟨v1, y1, r1⟩ := hco Q1 (by omega)
              obtain ⟨v2, y2, r2⟩ := hco Q2 (by omega)
              obtain ⟨b0, d0, rfl, _⟩ := r0
              obtain ⟨b1, d1', rfl, _⟩ := r1
              obtain ⟨b2, d2', rfl, _⟩ := r2
              rw [l1] at y0
              rw [l2] at y1
              rw [l3] at y2
              have g0 : IntKind.i64.wrap (3 * (r : Int)) = (Q0 : Int) := by rw [IntWalk.i64_in _ (by omega)]; omega
              have g1 : IntKind.i64.wrap ((Q0 : Int) + 1) = (Q1 : Int) := by rw [IntWalk.i64_in _ (by omega)]; omega
              have g2 : IntKind.i64.wrap ((Q0 : Int) + 2) = (Q2 : Int) := by rw [IntWalk.i64_in _ (by omega)]; omega
              have i0 : (0 : Int) ≤ (Q0 : Int) ∧ (Q0 : Int) < (L : Int) := by omega
              have i1 : (0 : Int) ≤ (Q1 : Int) ∧ (Q1 : Int) < (L : Int) := by omega
              have i2 : (0 : Int) ≤ (Q2 : Int) ∧ (Q2 : Int) < (L : Int) := by omega
              obtain ⟨i01, i02⟩ := i0
              obtain ⟨i11, i12⟩ := i1
              obtain ⟨i21, i22⟩ := i2
              have HBR3 := Lib.hid hbr3
              clear hco hbr3 hro hQ hQ0 hQ1 hQ2 hLQ l1 l2 l3
              go_wp2_with fail
              go_roundw
              case rel => exact ⟨r + 1, by omega, by go_num, HBR3.out⟩
              case measure => simp [intOf]; omega
            · have hbw := hQ.1.bw
              clear hQ
              go_wp2_with fail
              go_ret
              exact ⟨rfl, hbw⟩
end Go.Proofs.YtmgepagdkfghlaaDoor
