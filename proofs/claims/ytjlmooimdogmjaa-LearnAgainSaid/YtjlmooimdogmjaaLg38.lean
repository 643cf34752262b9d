/- learn.From where there is no clause: nothing, and false. Conditions: a prop as PrS has it. · What a conflict teaches, purely: the levels below are closed ('LvC'), the conflict's clause has a literal of the last level; gone back, with the lesson added, its first literal is what follows. No conditions beyond those typed. -/
import Derived.Test.YtjlmooimdogmjaaLg37
import Derived.Test.YtjlmooimdogmjaaLg36
import Derived.Test.YtjlmooimdogmjaaLg05
import Derived.Test.YtjlmooimdogmjaaLg32
set_option linter.unusedVariables false
set_option linter.unusedSimpArgs false
set_option linter.unusedVariables false
set_option linter.unusedSimpArgs false
namespace Go.Proofs.Ytjlmooimdogmjaa
open Go.RowKit Go.Maps

/-- Where From's first result lies, whatever is made behind it. -/
theorem resL {w W : World} (h : Below (w.alloc (.cells #[.slice none 0 0, .int .i64 0, .int .i64 0, .slice none 0 0] 29)).heap.size (w.alloc (.cells #[.slice none 0 0, .int .i64 0, .int .i64 0, .slice none 0 0] 29)) W) :
    W.cell? ⟨w.heap.size, 0, none⟩ = some (.slice none 0 0) ∧ W.cell? ⟨w.heap.size, 1, none⟩ = some (.int .i64 0) ∧ W.cell? ⟨w.heap.size, 2, none⟩ = some (.int .i64 0) ∧ W.cell? ⟨w.heap.size, 3, none⟩ = some (.slice none 0 0) ∧ (∀ k, W.frozen? ⟨w.heap.size, k, none⟩ = false) := by
  have hb := h.block w.heap.size (by rw [show (w.alloc (.cells #[.slice none 0 0, .int .i64 0, .int .i64 0, .slice none 0 0] 29)).heap.size = w.heap.size + 1 from Array.size_push _]; exact Nat.lt_succ_self _)
  refine ⟨(cell_blk hb 0).trans ?_, (cell_blk hb 1).trans ?_, (cell_blk hb 2).trans ?_, (cell_blk hb 3).trans ?_, fun k => (froz_blk hb k).trans ?_⟩
  · rw [World.cell?_alloc_at _ _ _ _ (by simp)]; rfl
  · rw [World.cell?_alloc_at _ _ _ _ (by simp)]; rfl
  · rw [World.cell?_alloc_at _ _ _ _ (by simp)]; rfl
  · rw [World.cell?_alloc_at _ _ _ _ (by simp)]; rfl
  · exact World.frozen?_alloc_at _ _ _ _ (by simp)

set_option maxRecDepth 8000 in
set_option maxHeartbeats 4000000 in
theorem from_none {v : Value} {S : List Nat} {p : Pr} (w : World) (hs : PrS w v S p) (k : Nat) (h1 : (k : Int) ≤ 9223372036854775807) (hk : p.cl.getD k none = none) : Calls Try.prog 10 #[v, .int .i64 (k : Int)] w fun e w' => e = .returned (.tuple #[.agg #[.slice none 0 0, .int .i64 0, .int .i64 0, .slice none 0 0], .bool false]) ∧ Below w.heap.size w w' := by
  have HP : Hid (∀ V, Below w.heap.size w V → PrS V v S p) := fun V hV => hs.below hV
  have HCL : Hid (∀ V, Below w.heap.size w V → Calls Try.prog 31 #[v, .int .i64 (k : Int)] V fun e w' => ∃ a c, e = .returned (.slice a 0 c) ∧ Below V.heap.size V w') := fun V hV => by
    refine (pclsT_any V (HP.out V hV) (k : Int) (by omega) h1).mono ?_
    rintro e w' ⟨u, d, rfl, ⟨a, c, rfl, _⟩, hp, hb⟩
    rw [if_neg (by omega), Int.toNat_natCast, hk] at hp
    have := List.perm_nil.1 hp
    subst this
    exact ⟨a, c, rfl, hb⟩
  have HLL : Hid (∀ V, Below w.heap.size w V → Calls Try.prog 15 #[v] V fun e w' => e = .returned (.int .i64 (p.st.length : Int)) ∧ V = w') := fun V hV => plvl_any V (HP.out V hV)
  have hA : Below w.heap.size w (w.alloc (.cells #[.slice none 0 0, .int .i64 0, .int .i64 0, .slice none 0 0] 29)) := (Below.refl _ _).alloc (Nat.le_refl _) _
  have hbs : (w.alloc (.cells #[.slice none 0 0, .int .i64 0, .int .i64 0, .slice none 0 0] 29)).heap.size = w.heap.size + 1 := Array.size_push _
  have HA := Lib.hid hA
  have HBS := Lib.hid hbs
  clear hs hk hA hbs
  generalize (p.st.length : Int) = L at *
  go_enter Try.func10, Try.ntmps10
  go_wp2_with fail
  refine (HCL.out _ HA.out).mono ?_
  rintro e w2 ⟨a, c, rfl, hb2⟩
  have HB2 : Hid (Below w.heap.size w w2) := HA.out.trans (hb2.mono HA.out.size)
  have hg : w.heap.size < w2.heap.size := Nat.lt_of_lt_of_le (by rw [HBS.out]; exact Nat.lt_succ_self _) hb2.size
  have HLV := Lib.hid (HLL.out _ HB2.out)
  obtain ⟨r0, r1, r2, r3, rf⟩ := resL hb2
  have f0 := rf 0
  have f1 := rf 1
  have f2 := rf 2
  have f3 := rf 3
  clear hb2 HCL HLL rf
  by_cases hz : L = 0
  · subst hz
    go_wp2_with fail
    refine HLV.out.mono ?_
    rintro e w3 ⟨rfl, rfl⟩
    go_wp2_with fail
    exact bodyPost_ret (v := .tuple #[.agg #[.slice none 0 0, .int .i64 0, .int .i64 0, .slice none 0 0], .bool false]) (by simp [results, Try.results10, go_sem, r0, r1, r2, r3]) rfl ⟨rfl, (((HB2.out.setCell (Nat.le_refl _) _).setCell (Nat.le_refl _) _).setCell (Nat.le_refl _) _).setCell (Nat.le_refl _) _⟩
  · have b1 : (L == 0) = false := beq_eq_false_iff_ne.2 hz
    clear hz
    go_wp2_with fail
    refine HLV.out.mono ?_
    rintro e w3 ⟨rfl, rfl⟩
    go_wp2_with fail
    exact bodyPost_ret (v := .tuple #[.agg #[.slice none 0 0, .int .i64 0, .int .i64 0, .slice none 0 0], .bool false]) (by simp [results, Try.results10, go_sem, r0, r1, r2, r3]) rfl ⟨rfl, (((HB2.out.setCell (Nat.le_refl _) _).setCell (Nat.le_refl _) _).setCell (Nat.le_refl _) _).setCell (Nat.le_refl _) _⟩
end Go.Proofs.Ytjlmooimdogmjaa

set_option linter.unusedVariables false
set_option linter.unusedSimpArgs false
namespace Go.Proofs.Ytjlmooimdogmjaa
open Go.RowKit

/-- Nothing follows at once of clauses where this is true. -/
def ClT (C : List (List Int)) (tr : List Int) : Prop := ∀ c ∈ C, (∃ l ∈ c, l ∈ tr) ∨ ∃ a ∈ c, ∃ b ∈ c, a ≠ b ∧ -a ∉ tr ∧ -b ∉ tr
theorem cld_iff {p : Pr} : CldP p ↔ ClT (clsP p) p.tr := Iff.rfl
/-- All lower levels are closed. -/
def LvC (p : Pr) : Prop := ∀ s ∈ p.st, ClT (clsP p) (p.tr.take s)
theorem clsP_eq {p q : Pr} (h : q.cl = p.cl) : clsP q = clsP p := by unfold clsP; rw [h]
theorem LvC.dec {p q : Pr} {l x : Int} (hw : PrW p) (h : LvC p) (hc : CldP p) (ho : decOk p l = true) (hR : PrpR (decdP p l) x q) : LvC q := by
  obtain ⟨_, h2, h3, ⟨m, r, h4, _⟩, _⟩ := hR
  have e : decdP p l = { p with tr := p.tr ++ [l], rs := p.rs ++ [-1], st := p.st ++ [p.tr.length] } := by unfold decdP; rw [if_pos ho]
  rw [e] at h2 h3 h4
  simp only at h2 h3 h4
  intro s hs
  rw [h3] at hs
  rw [clsP_eq h2, h4]
  rcases List.mem_append.1 hs with hs | hs
  · have := hw.lt s hs
    rw [List.append_assoc, List.take_append_of_le_length (by omega)]
    exact h s hs
  · simp at hs
    subst hs
    rw [List.append_assoc, List.take_left' rfl]
    exact hc
/-- The literals that came behind a level's begin are of that level or a higher one. -/
theorem lev_ge {p : Pr} (hw : PrW p) {i : Nat} (hi : i < p.tr.length) {k : Nat} (hk : k < p.st.length) (h : p.st[k] ≤ i) : k + 1 ≤ lvI p i := by
  unfold lvI
  conv => rhs; rw [← List.take_append_drop (k + 1) p.st]
  rw [List.countP_append]
  have : (p.st.take (k + 1)).countP (fun s => decide (s ≤ i)) = (p.st.take (k + 1)).length := List.countP_eq_length.2 fun s hs => by
    obtain ⟨j, hj, rfl⟩ := List.getElem_of_mem hs
    rw [List.getElem_take]
    have hj' : j ≤ k := by simp at hj; omega
    have : p.st[j] ≤ p.st[k] := by
      rcases Nat.lt_or_ge j k with e | e
      · exact Nat.le_of_lt (List.pairwise_iff_getElem.1 hw.sorted j k (by omega) hk e)
      · have : j = k := by omega
        subst this; exact Nat.le_refl _
    exact decide_eq_true (by omega)
  have h3 : (p.st.take (k + 1)).length = k + 1 := by simp; omega
  omega
theorem lev_lt {p : Pr} (hw : PrW p) {i : Nat} {k : Nat} (hk : k < p.st.length) (h : i < p.st[k]) : lvI p i ≤ k := by
  unfold lvI
  conv => lhs; rw [← List.take_append_drop k p.st]
  rw [List.countP_append]
  have : (p.st.drop k).countP (fun s => decide (s ≤ i)) = 0 := List.countP_eq_zero.2 fun s hs => by
    obtain ⟨j, hj, rfl⟩ := List.getElem_of_mem hs
    rw [List.getElem_drop]
    have hj' : k + j < p.st.length := by simp at hj; omega
    have : p.st[k] ≤ p.st[k + j] := by
      rcases Nat.eq_zero_or_pos j with e | e
      · subst e; exact Nat.le_refl _
      · exact Nat.le_of_lt (List.pairwise_iff_getElem.1 hw.sorted k (k + j) hk hj' (by omega))
    simp; omega
  have hle : (p.st.take k).countP (fun s => decide (s ≤ i)) ≤ k := Nat.le_trans List.countP_le_length (by simp; omega)
  omega
theorem ClT.not_false {C : List (List Int)} {tr : List Int} (h : ClT C tr) (hnb : ∀ l, l ∈ tr → -l ∈ tr → False) {c : List Int} (hc : c ∈ C) : ∃ l ∈ c, -l ∉ tr := by
  rcases h c hc with ⟨l, hl, ht⟩ | ⟨a, ha, _, _, _, hna, _⟩
  · exact ⟨l, hl, fun hn => hnb l ht hn⟩
  · exact ⟨a, ha, hna⟩
/-- A clause that came to be wrong has a literal of the last level. -/
theorem top_last {p : Pr} (hw : PrW p) (h : LvC p) (hst : p.st ≠ []) {c : List Int} (hc : c ∈ clsP p) (hf : AllF p c) : topL p c = (p.st.length : Int) := by
  have hpos : 0 < p.st.length := List.length_pos_iff.2 hst
  have hlast : p.st.length - 1 < p.st.length := by omega
  have hcl := h p.st[p.st.length - 1] (List.getElem_mem hlast)
  obtain ⟨l, hl, hn⟩ := hcl.not_false (fun x h1 h2 => hw.not_both (List.mem_of_mem_take h1) (List.mem_of_mem_take h2)) hc
  obtain ⟨i, hi, e1, e2, e3⟩ := hf.lev hw hl
  have hge : p.st[p.st.length - 1] ≤ i := by
    rcases Nat.lt_or_ge i p.st[p.st.length - 1] with hlt | hge
    · exfalso
      refine hn ?_
      rw [← e1, show p.tr.getD i 0 = p.tr[i] by simp [List.getD, hi]]
      exact List.mem_take_iff_getElem.2 ⟨i, by omega, rfl⟩
    · exact hge
  have h1 := lev_ge hw hi hlast hge
  have h2 := topL_ge (p := p) c l hl
  have h3 : topL p c ≤ (p.st.length : Int) := topL_le c _ (by omega) fun x hx => by
    obtain ⟨j, _, _, _, e4⟩ := hf.lev hw hx
    rw [e4]
    have := lvI_le (p := p) j
    omega
  omega
theorem LesR.perm {p : Pr} {c d r : List Int} {u : Int} (h : LesR p d u r) (hd : d.Perm c) : LesR p c u r := by
  have e : topL p d = topL p c := by
    have h1 := topL_le (p := p) d (topL p c) (topL_zero c) fun l hl => topL_ge c l (hd.mem_iff.1 hl)
    have h2 := topL_le (p := p) c (topL p d) (topL_zero d) fun l hl => topL_ge d l (hd.mem_iff.2 hl)
    omega
  exact ⟨h.tu, by rw [← e]; exact h.top, fun l hl => by rw [← e]; exact h.rst l hl, h.nd, h.wrg, fun l hl ht => h.uip l (hd.mem_iff.2 hl) (by rw [e]; exact ht)⟩
section
variable {p : Pr} {c0 : List Int} {u : Int} {r : List Int}
theorem LesR.allF (h : LesR p c0 u r) : AllF p (u :: r) := fun l hl => by
  rcases List.mem_cons.1 hl with rfl | hl
  · exact h.tu
  · exact (h.rst l hl).1
theorem LesR.topr (h : LesR p c0 u r) (ht : topL p c0 = (p.st.length : Int)) : topL p r < (p.st.length : Int) ∨ p.st.length = 0 := by
  rcases topL_some (p := p) r with e | ⟨l, hl, e⟩
  · rw [e]; omega
  · left; rw [← e, ← ht]; exact (h.rst l hl).2.2
/-- The lesson as a clause may be added, whatever was gone back on. -/
theorem LesR.add (h : LesR p c0 u r) (hw : PrW p) {n : Nat} (hn : n = p.n) : addOk n (u :: r) = true := by
  unfold addOk
  refine decide_eq_true fun x hx => ?_
  have h1 := h.allF x hx
  have h2 := hw.rgt _ h1
  rw [plc_negate] at h2
  refine ⟨by rw [hn]; exact h2, fun hm => ?_⟩
  have h3 := h.allF _ hm
  exact hw.not_both h1 (by simpa using h3)
/-- Gone back: which of it is false still. -/
theorem LesR.back (h : LesR p c0 u r) (hw : PrW p) (ht : topL p c0 = (p.st.length : Int)) (hst : p.st ≠ []) : ∃ s, (backP p (topL p r)).tr = p.tr.take s ∧ (backP p (topL p r)).st = p.st.take (topL p r).toNat ∧ (∀ l ∈ r, -l ∈ p.tr.take s) ∧ -u ∉ p.tr.take s ∧ s ∈ p.st ∧ (∀ x ∈ p.st.take (topL p r).toNat, x < s ∧ x < (p.tr.take s).length ∧ ∀ l ∈ r, levP p (plc l : Int) = topL p r → -l ∉ p.tr.take x) := by
  have hpos : 0 < p.st.length := List.length_pos_iff.2 hst
  have hlt : topL p r < (p.st.length : Int) := (h.topr ht).resolve_right (by omega)
  have h0 := topL_zero (p := p) r
  obtain ⟨k, hk⟩ : ∃ k : Nat, topL p r = (k : Int) := ⟨(topL p r).toNat, by omega⟩
  have hkl : k < p.st.length := by omega
  have e : backP p (topL p r) = { p with tr := p.tr.take p.st[k], rs := p.rs.take p.st[k], st := p.st.take k } := by
    unfold backP
    rw [hk, Int.toNat_natCast, if_pos hkl]
    simp [List.getD, hkl]
  rw [e, hk, Int.toNat_natCast]
  have hmt : ∀ {i : Nat} {s : Nat} {x : Int}, i < p.tr.length → p.tr.getD i 0 = x → (x ∈ p.tr.take s ↔ i < s) := fun {i s x} hi ex => by
    constructor
    · intro hm
      obtain ⟨j, hj, e2⟩ := List.getElem_of_mem hm
      have hj' : j < s ∧ j < p.tr.length := by simp at hj; omega
      rw [List.getElem_take] at e2
      have : j = i := hw.vr_inj hj'.2 hi (by unfold vrI; rw [ex, ← e2]; simp [List.getD, hj'.2])
      omega
    · intro hs
      rw [← ex, show p.tr.getD i 0 = p.tr[i] by simp [List.getD, hi]]
      exact List.mem_take_iff_getElem.2 ⟨i, by omega, rfl⟩
  refine ⟨p.st[k], rfl, rfl, fun l hl => ?_, fun hm => ?_, List.getElem_mem hkl, fun x hx => ?_⟩
  · obtain ⟨i, hi, e1, e2, e3⟩ := h.allF.lev hw (List.mem_cons_of_mem u hl)
    refine (hmt hi e1).2 ?_
    rcases Nat.lt_or_ge i p.st[k] with hh | hh
    · exact hh
    · have := lev_ge hw hi hkl hh
      have := topL_ge (p := p) r l hl
      omega
  · obtain ⟨i, hi, e1, e2, e3⟩ := h.allF.lev hw (List.mem_cons_self (a := u) (l := r))
    have := (hmt hi e1).1 hm
    have := lev_lt hw hkl this
    have := h.top
    omega
  · obtain ⟨j, hj, rfl⟩ := List.getElem_of_mem hx
    have hj' : j < k := by simp at hj; omega
    rw [List.getElem_take]
    have hlt2 : p.st[j] < p.st[k] := List.pairwise_iff_getElem.1 hw.sorted j k (by omega) hkl hj'
    refine ⟨hlt2, ?_, fun l hl hlv hm => ?_⟩
    · have := hw.lt _ (List.getElem_mem hkl)
      have e : (p.tr.take p.st[k]).length = min p.st[k] p.tr.length := List.length_take
      omega
    · obtain ⟨i, hi, e1, e2, e3⟩ := h.allF.lev hw (List.mem_cons_of_mem u hl)
      have h1 := (hmt hi e1).1 hm
      have := lev_lt hw (by omega) h1
      omega
/-- With it added, its first literal is what follows. -/
theorem LesR.mend (h : LesR p c0 u r) (hw : PrW p) (hl : LvC p) (ht : topL p c0 = (p.st.length : Int)) (hst : p.st ≠ []) {cc : List Int} (hc : NrmP (u :: r) cc) {x : Int} {q : Pr} (hR : PrpR (addP (backP p (topL p r)) cc) x q) : ∃ s m, q.tr = p.tr.take s ++ u :: m ∧ s ∈ p.st ∧ q.st = p.st.take (topL p r).toNat ∧ (s ∉ q.st ∧ LvC q) := by
  obtain ⟨s, b1, b2, b3, b4, b5, b6⟩ := h.back hw ht hst
  obtain ⟨_, r2, r3, ⟨m, _, r4, _⟩, rw', r6⟩ := hR
  have ecl : q.cl = (backP p (topL p r)).cl ++ [some cc] := r2
  have ebc : (backP p (topL p r)).cl = p.cl := by unfold backP; split <;> rfl
  rw [ebc] at ecl
  have ecs : clsP q = clsP p ++ [cc] := by unfold clsP; rw [ecl]; simp
  have etr : q.tr = p.tr.take s ++ m := r4.trans (by rw [show (addP (backP p (topL p r)) cc).tr = (backP p (topL p r)).tr from rfl, b1])
  have est : q.st = p.st.take (topL p r).toNat := r3.trans b2
  have hcl := hl s b5
  have hu : u ∉ p.tr.take s := fun hm => hw.not_both (List.mem_of_mem_take hm) h.tu
  have hnb : ∀ l, l ∈ p.tr.take s → -l ∈ p.tr.take s → False := fun l h1 h2 => hw.not_both (List.mem_of_mem_take h1) (List.mem_of_mem_take h2)
  have hlast : ∃ m', m = u :: m' := by
    cases hm : m with
    | nil =>
      exfalso
      rw [hm, List.append_nil] at etr
      rcases r6 with ⟨_, hcd⟩ | ⟨k, d, _, hd, hfd⟩
      · rcases hcd cc (by rw [ecs]; simp) with ⟨l, hlc, hlt⟩ | ⟨a, ha, b, hb, hne, hna, hnb'⟩
        · rw [etr] at hlt
          rcases List.mem_cons.1 ((hc.2 l).1 hlc) with rfl | hlr
          · exact hu hlt
          · exact hnb l hlt (b3 l hlr)
        · rw [etr] at hna hnb'
          rcases List.mem_cons.1 ((hc.2 a).1 ha) with ea | har
          · rcases List.mem_cons.1 ((hc.2 b).1 hb) with eb | hbr
            · exact hne (ea.trans eb.symm)
            · exact hnb' (b3 b hbr)
          · exact hna (b3 a har)
      · have hdm : d ∈ clsP q := mem_clsP.2 ⟨k, hd⟩
        rw [ecs] at hdm
        rw [etr] at hfd
        rcases List.mem_append.1 hdm with hdm | hdm
        · obtain ⟨l, hl1, hl2⟩ := hcl.not_false hnb hdm
          exact hl2 (hfd l hl1)
        · simp at hdm
          subst hdm
          exact b4 (hfd u ((hc.2 u).2 (by simp)))
    | cons y m' =>
      refine ⟨m', ?_⟩
      have hti : (p.tr.take s).length < q.tr.length := by rw [etr, hm]; simp
      have hns : (p.tr.take s).length ∉ q.st := fun hmem => by
        rw [est] at hmem
        have := (b6 _ hmem).2.1
        omega
      obtain ⟨k, d, _, hd, hyd, hk⟩ := rw'.rsn _ hti hns
      have ey : q.tr.getD (p.tr.take s).length 0 = y := by rw [etr, hm]; simp [List.getD]
      have etk : q.tr.take (p.tr.take s).length = p.tr.take s := by rw [etr, List.take_left' rfl]
      rw [ey] at hyd hk
      rw [etk] at hk
      have hyq : y ∈ q.tr := by rw [etr, hm]; simp
      have hyn : y ∉ p.tr.take s := fun hmem => by
        have h1 := List.pairwise_append.1 (show (p.tr.take s ++ y :: m').Pairwise fun a b => plc a ≠ plc b by rw [← hm, ← etr]; exact rw'.one)
        exact h1.2.2 y hmem y (by simp) rfl
      have hdm : d ∈ clsP q := mem_clsP.2 ⟨k, hd⟩
      rw [ecs] at hdm
      have : y = u := by
        rcases List.mem_append.1 hdm with hdm | hdm
        · exfalso
          rcases hcl d hdm with ⟨l, hl1, hl2⟩ | ⟨a, ha, b, hb, hne, hna, hnb'⟩
          · have hly : l ≠ y := fun e => hyn (e ▸ hl2)
            exact hnb l hl2 (hk l hl1 hly)
          · by_cases e : a = y
            · exact hnb' (hk b hb fun e' => hne (e.trans e'.symm))
            · exact hna (hk a ha e)
        · simp at hdm
          subst hdm
          rcases List.mem_cons.1 ((hc.2 y).1 hyd) with e | hyr
          · exact e
          · exfalso
            have := b3 y hyr
            exact rw'.not_both hyq (by rw [etr]; exact List.mem_append_left _ this)
      rw [this]
  obtain ⟨m', hm⟩ := hlast
  refine ⟨s, m', by rw [etr, hm], b5, est, (fun hmem => by
    rw [est] at hmem
    have := (b6 _ hmem).1
    omega), fun x hx => ?_⟩
  rw [est] at hx
  obtain ⟨k1, k2, k3⟩ := b6 x hx
  have etx : q.tr.take x = p.tr.take x := by
    rw [etr, List.take_append_of_le_length (by omega), List.take_take, Nat.min_eq_left (by omega)]
  rw [etx, ecs]
  intro d hd
  rcases List.mem_append.1 hd with hd | hd
  · exact hl x (List.mem_of_mem_take hx) d hd
  · simp at hd
    subst hd
    right
    have hsome : ∃ l ∈ r, levP p (plc l : Int) = topL p r := by
      rcases topL_some (p := p) r with e | h'
      · rw [e] at hx; simp at hx
      · exact h'
    obtain ⟨l, hlr, hlv⟩ := hsome
    refine ⟨u, (hc.2 u).2 (by simp), l, (hc.2 l).2 (by simp [hlr]), fun e => ?_, fun hm' => ?_, k3 l hlr hlv⟩
    · have h1 := h.top
      have h2 := (h.rst l hlr).2.2
      rw [e] at h1
      omega
    · refine b4 ?_
      have := List.mem_of_mem_take (i := x) (l := p.tr.take s) (by rw [List.take_take, Nat.min_eq_left (by omega)]; exact hm')
      exact this
end
end Go.Proofs.Ytjlmooimdogmjaa
