/- What follows from variables that are given, by reasons ('Hen', 'ByR'), and learn's table of what is known of it ('KnS'). No conditions beyond those typed. · The contracts of learn's hence.is and hence.byReason, by the place on the trail. Conditions: a prop as PrS has it, of at most ten thousand clauses; the table as KnS has it. -/
import Derived.Test.YtjlmooimdogmjaaLg37
import Derived.Deep.CutBlock
import Derived.Deep.DeepCutAuto
set_option linter.unusedVariables false
set_option linter.unusedSimpArgs false
set_option linter.unusedVariables false
set_option linter.unusedSimpArgs false
namespace Go.Proofs.Ytjlmooimdogmjaa
open Go.RowKit Go.Maps

/-- The variable at j is another one of the reason of the one at i. -/
def Oth (p : Pr) (i j : Nat) : Prop := ∃ (k : Nat) (c : List Int) (x : Int), p.rs.getD i (-1) = (k : Int) ∧ p.cl.getD k none = some c ∧ x ∈ c ∧ x ≠ p.tr.getD i 0 ∧ vrI p j = (plc x : Int)
inductive Hen (p : Pr) (V : List Int) : Nat → Prop
  | giv {i : Nat} : vrI p i ∈ V → Hen p V i
  | zero {i : Nat} : lvI p i = 0 → Hen p V i
  | rsn {i : Nat} : i ∉ p.st → (∀ j, j < i → Oth p i j → Hen p V j) → Hen p V i
def ByR (p : Pr) (V : List Int) (i : Nat) : Prop := i ∉ p.st ∧ ∀ j, j < i → Oth p i j → Hen p V j
theorem hen_iff {p : Pr} {V : List Int} {i : Nat} : Hen p V i ↔ vrI p i ∈ V ∨ lvI p i = 0 ∨ ByR p V i := by
  constructor
  · intro h
    cases h with
    | giv h => exact .inl h
    | zero h => exact .inr (.inl h)
    | rsn h1 h2 => exact .inr (.inr ⟨h1, h2⟩)
  · rintro (h | h | ⟨h1, h2⟩)
    · exact .giv h
    · exact .zero h
    · exact .rsn h1 h2
/-- The given ones that follow from the others may be left out: what follows of the rest. -/
theorem hen_fol {p : Pr} (hw : PrW p) {c y : List Int} (hc : AllF p c) (hy : ∀ l ∈ c, l ∈ y ∨ ∃ i, i < p.tr.length ∧ vrI p i = (plc l : Int) ∧ ByR p (c.map fun l => (plc l : Int)) i) : ∀ m i, i < m → i < p.tr.length → Hen p (c.map fun l => (plc l : Int)) i → Fol (clsP p) (y.map fun l => -l) (p.tr.getD i 0) := by
  intro m
  induction m with
  | zero => intro i hi; exact absurd hi (Nat.not_lt_zero _)
  | succ m ih =>
    intro i him hi hh
    have hby : ByR p (c.map fun l => (plc l : Int)) i → Fol (clsP p) (y.map fun l => -l) (p.tr.getD i 0) := fun hb => by
      obtain ⟨k, d, hk, hd, hl, hot⟩ := hw.rsn i hi hb.1
      refine .unit (mem_clsP.2 ⟨k, hd⟩) hl fun x hx hne => ?_
      obtain ⟨j, hj, e⟩ := List.getElem_of_mem (hot x hx hne)
      have hj' : j < i ∧ j < p.tr.length := by simp at hj; omega
      rw [List.getElem_take] at e
      have eg : p.tr.getD j 0 = -x := by rw [← e]; simp [List.getD, hj'.2]
      have hv : vrI p j = (plc x : Int) := by unfold vrI; rw [eg, plc_negate]
      rw [← eg]
      exact ih j (by omega) hj'.2 (hb.2 j hj'.1 ⟨k, d, x, hk, hd, hx, hne, hv⟩)
    rcases hen_iff.1 hh with hg | h0 | hb
    · obtain ⟨l, hl, e⟩ := List.mem_map.1 hg
      have hlt := hc l hl
      have hget : p.tr.getD i 0 = -l := hw.tr_get hi hlt (by rw [plc_negate, e])
      rcases hy l hl with hly | ⟨i', hi', e2, hb⟩
      · rw [hget]; exact .dec (List.mem_map.2 ⟨l, hly, rfl⟩)
      · have : i' = i := hw.vr_inj hi' hi (by rw [e2, ← e])
        subst this
        exact hby hb
    · exact hw.fol0 _ (i + 1) i (Nat.lt_succ_self _) hi h0
    · exact hby hb

/-! ### The table -/
def updF (f : Int → Int) (v x : Int) : Int → Int := fun u => if u = v then x else f u
def varsT (p : Pr) : List Int := (List.range p.tr.length).map (vrI p)
def zeroN (p : Pr) (f : Int → Int) : Nat := (varsT p).countP fun v => decide (f v = 0)
theorem varsT_nodup {p : Pr} (hw : PrW p) : (varsT p).Nodup := by
  unfold varsT
  refine List.pairwise_map.2 (List.pairwise_iff_getElem.2 fun i j hi hj hij e => ?_)
  have := hw.vr_inj (by simpa using hi) (by simpa using hj) e
  simp at this
  omega
theorem zeroN_upd {p : Pr} (hw : PrW p) {f : Int → Int} {i : Nat} (hi : i < p.tr.length) {x : Int} (hx : x ≠ 0) (h0 : f (vrI p i) = 0) : zeroN p f = zeroN p (updF f (vrI p i) x) + 1 := by
  unfold zeroN
  refine countP_split (varsT_nodup hw) _ _ (vrI p i) ?_ (by simp [h0]) (by simp [updF, hx]) fun y hy hne => by simp [updF, hne]
  exact List.mem_map.2 ⟨i, List.mem_range.2 hi, rfl⟩
theorem zeroN_le {p : Pr} {f : Int → Int} {v x : Int} (hx : x ≠ 0) : zeroN p (updF f v x) ≤ zeroN p f := by
  unfold zeroN
  refine List.countP_mono_left fun y _ hy => ?_
  simp only [decide_eq_true_eq] at hy ⊢
  unfold updF at hy
  split at hy
  · exact absurd hy hx
  · exact hy
structure KnS (p : Pr) (W : World) (mb : Nat) (f : Int → Int) (n : Nat) : Prop where
  ex : ∃ D, W.ownsMap (H := Unit) Try.prog 3 (plainElem Try.prog 3) mb n D ∧ IsMap D ∧ ∀ v : Int, D.atKey (.int .i64 v) (.lit (.int .i64 0)) = .lit (.int .i64 (f v))
theorem zeroI (w : World) : (zeroValue 3).run Try.prog w = .ok (.int .i64 0) w := by kernel_rfl
theorem KnS.blk {p : Pr} {W W' : World} {mb n : Nat} {f : Int → Int} (h : KnS p W mb f n) (he : W'.heap[mb]? = W.heap[mb]?) : KnS p W' mb f n := by
  obtain ⟨D, h1, h2, h3⟩ := h.ex
  exact ⟨D, ownsMap_block h1 he, h2, h3⟩
theorem KnS.lt {p : Pr} {W : World} {mb n : Nat} {f : Int → Int} (h : KnS p W mb f n) : mb < W.heap.size := by
  obtain ⟨D, h1, _⟩ := h.ex
  exact h1.lt
theorem KnS.made {p : Pr} (w : World) : KnS p (w.alloc (.map #[] 0)) w.heap.size (fun _ => 0) 0 :=
  ⟨.map [], World.ownsMap_made w _ _ _, isMap_empty, fun v => by rw [atKey_of_not_has (by simp [Maps.has])]⟩
theorem KnS.look {p : Pr} {W : World} {mb n : Nat} {f : Int → Int} (h : KnS p W mb f n) (v : Int) (h1 : -9223372036854775808 ≤ v) (h2 : v ≤ 9223372036854775807) : (Instr.lookup 81 (.map (some mb)) (.int .i64 v) false).run Try.prog W = .ok (.int .i64 (f v)) W := by
  obtain ⟨D, k1, k2, k3⟩ := h.ex
  obtain ⟨c, hr, hat, _⟩ := k1.lookup_int lawI Try.underlying81 Try.underlying3 (zeroI _) (keyI v h1 h2)
  rw [k3] at hat
  have h5 := (Lit.int.inj (DataW.lit.inj hat)).2
  rw [h5]; exact hr
theorem KnS.put {p : Pr} {W W' : World} {mb n : Nat} {f : Int → Int} {v x : Int} {D : DataW Unit} (h2 : IsMap D) (h3 : ∀ v : Int, D.atKey (.int .i64 v) (.lit (.int .i64 0)) = .lit (.int .i64 (f v))) (hm : W'.ownsMap Try.prog 3 (plainElem Try.prog 3) mb (n + 1) (D.put (.int .i64 v) (.lit (.int .i64 x)))) : KnS p W' mb (updF f v x) (n + 1) := by
  refine ⟨_, hm, h2.put _ _, fun u => ?_⟩
  unfold updF
  by_cases e : u = v
  · subst e
    rw [if_pos rfl]
    exact atKey_put_same h2 (show WideAt.IsKeyLit (.int .i64 u) from trivial) _ _
  · rw [if_neg e, atKey_put_other (fun he => e (Lit.int.inj he).2)]
    exact h3 u
/-- What is known of the first n places is right. -/
def Cons (p : Pr) (V : List Int) (n : Nat) (f : Int → Int) : Prop := ∀ j, j < n → j < p.tr.length → (f (vrI p j) = 0 ∧ vrI p j ∉ V) ∨ (f (vrI p j) = 1 ∧ Hen p V j) ∨ (f (vrI p j) = 2 ∧ ¬ Hen p V j)
end Go.Proofs.Ytjlmooimdogmjaa

set_option linter.unusedVariables false
set_option linter.unusedSimpArgs false
namespace Go.Proofs.Ytjlmooimdogmjaa
open Go.RowKit Go.Maps

def IsPost (p : Pr) (V : List Int) (mb C m : Nat) (f : Int → Int) (W : World) (Q : Prop) (e : Ending) (w' : World) : Prop :=
  ∃ (b : Bool) (f' : Int → Int) (n : Nat), e = .returned (.bool b) ∧ (b = true ↔ Q) ∧ KnS p w' mb f' n ∧ n + 2 * zeroN p f' ≤ C ∧ Cons p V m f' ∧ (∀ j, m ≤ j → j < p.tr.length → f' (vrI p j) = f (vrI p j)) ∧ Chg [mb] W w'

def IsSpec (p : Pr) (V : List Int) (v : Value) (S : List Nat) (mb C i : Nat) : Prop := ∀ (W : World) (f : Int → Int) (n : Nat), PrS W v S p → KnS p W mb f n → n + 2 * zeroN p f ≤ C → Cons p V (i + 1) f → Calls Try.prog 76 #[.agg #[v, .map (some mb)], .int .i64 (vrI p i)] W (IsPost p V mb C (i + 1) f W (Hen p V i))

def BySpec (p : Pr) (V : List Int) (v : Value) (S : List Nat) (mb C i : Nat) : Prop := ∀ (W : World) (f : Int → Int) (n : Nat), PrS W v S p → KnS p W mb f n → n + 2 * zeroN p f ≤ C → Cons p V i f → Calls Try.prog 49 #[.agg #[v, .map (some mb)], .int .i64 (vrI p i)] W (IsPost p V mb C i f W (ByR p V i))

set_option maxRecDepth 8000 in
set_option maxHeartbeats 8000000 in
theorem byR_of {p : Pr} {V : List Int} {v : Value} {S : List Nat} {mb C i : Nat} (hC : C ≤ 1000000) (hcl : p.cl.length ≤ 10000) (hmb : mb ∉ S) (hi : i < p.tr.length) (ih : ∀ j, j < i → IsSpec p V v S mb C j) : BySpec p V v S mb C i := by
  intro W f n hs hK hn hc
  have hw := hs.wf
  have HW := Lib.hid hw
  obtain ⟨_, _, hv1, hv2⟩ := hw.tr_bd hi
  have HPV : Hid (∀ V', Chg [mb] W V' → PrS V' v S p) := fun V' hV => hs.keep hV fun j hj hm => by simp at hm; subst hm; exact hmb hj
  have HPB : Hid (∀ V', Below W.heap.size W V' → PrS V' v S p) := fun V' hV => hs.below hV
  have hrea := hw.reaI hi
  have HRE : Hid (∀ V', Below W.heap.size W V' → Calls Try.prog 52 #[v, .int .i64 (vrI p i)] V' fun e w' => e = .returned (.int .i64 (p.rs.getD i (-1))) ∧ V' = w') := fun V' hV => by
    have := prea_any V' (HPB.out V' hV) (vrI p i) (by omega) (by omega)
    rwa [hrea] at this
  have HIH := Lib.hid ih
  have HK := Lib.hid hK
  have HC0 := Lib.hid hc
  have HN := Lib.hid hn
  have hal : Below W.heap.size W (W.alloc (.cells #[v, .map (some mb)] 83)) := (Below.refl _ _).alloc (Nat.le_refl _) _
  have HAL := Lib.hid hal
  have HR1 := Lib.hid (HRE.out _ hal)
  have HMB := Lib.hid hK.lt
  obtain ⟨q, rfl⟩ := hs.ptr
  clear hs hK hw ih hc hn hrea hal
  generalize hvi : vrI p i = vi at *
  have HVI := Lib.hid hvi
  clear hvi
  by_cases hst : i ∈ p.st
  · have hr : p.rs.getD i (-1) = -1 := (HW.out.dec i hi).2 hst
    have HNB : Hid (¬ ByR p V i) := fun h => h.1 hst
    rw [hr] at HR1
    clear hr hst HRE
    go_enter Try.func49, Try.ntmps49
    go_wp2_with fail
    refine HR1.out.mono ?_
    rintro e w' ⟨rfl, rfl⟩
    go_wp2_with fail
    go_ret
    exact ⟨false, f, n, rfl, ⟨(fun h => Bool.noConfusion h), (fun h => absurd h HNB.out)⟩, HK.out.blk (HAL.out.block mb HMB.out), HN.out, HC0.out, fun _ _ _ => rfl, Chg.of_below HAL.out⟩
  · obtain ⟨k, c, hk, hcc, hlc, hot⟩ := HW.out.rsn i hi hst
    rw [hk] at HR1
    have hkl : k < p.cl.length := by
      rcases Nat.lt_or_ge k p.cl.length with h | h
      · exact h
      · simp [List.getD, List.getElem?_eq_none h] at hcc
    have hb1 : ((k : Int) == -1) = false := by rw [beq_eq_false_iff_ne]; omega
    have HCV := Lib.hid (pclsT_any _ (HPB.out _ HAL.out) (k : Int) (by omega) (by omega))
    rw [if_neg (by omega), Int.toNat_natCast, hcc, Option.getD_some] at HCV
    have HX : Hid (∀ x ∈ c, -4000 ≤ x ∧ x ≤ 4000 ∧ 1 ≤ absI x ∧ absI x ≤ 4000 ∧ (x = p.tr.getD i 0 → absI x = vi) ∧ (x ≠ p.tr.getD i 0 → absI x ≠ vi ∧ ∃ j, j < i ∧ vrI p j = absI x ∧ Oth p i j)) := fun x hx => by
      have h1 := (HW.out.cls c (mem_clsP.2 ⟨k, hcc⟩)).2 x hx
      have h2 := plc_absI x
      have h3 := HW.out.n
      have h4 : absI x = x ∨ absI x = -x := by unfold absI; split <;> simp
      refine ⟨by omega, by omega, by omega, by omega, fun e => ?_, fun hne => ?_⟩
      · rw [← h2, e, ← HVI.out]; rfl
      · obtain ⟨j, hj, e⟩ := List.getElem_of_mem (hot x hx hne)
        have hj' : j < i ∧ j < p.tr.length := by simp at hj; omega
        rw [List.getElem_take] at e
        have eg : p.tr.getD j 0 = -x := by rw [← e]; simp [List.getD, hj'.2]
        have hv : vrI p j = (plc x : Int) := by unfold vrI; rw [eg, plc_negate]
        refine ⟨fun e2 => ?_, j, hj'.1, by rw [hv, h2], k, c, x, hk, hcc, hx, hne, hv⟩
        have : j = i := HW.out.vr_inj hj'.2 hi (by rw [hv, h2, e2, HVI.out])
        omega
    have HBY : Hid (∀ d : List Int, d.Perm c → (∀ x ∈ d, x = p.tr.getD i 0 ∨ ∀ j, j < i → vrI p j = absI x → Hen p V j) → ByR p V i) := fun d hd h => ⟨hst, fun j hj ⟨k', c', x, h1, h2, h3, h4, h5⟩ => by
      have hkk : k' = k := by
        have := h1.symm.trans hk
        omega
      subst hkk
      have hc' : c' = c := Option.some.inj (h2.symm.trans hcc)
      subst hc'
      exact ((h x (hd.mem_iff.2 h3)).resolve_left h4) j hj (by rw [h5, plc_absI])⟩
    have HNY : Hid (∀ j, j < i → Oth p i j → ¬ Hen p V j → ¬ ByR p V i) := fun j hj ho hn hb => hn (hb.2 j hj ho)
    clear hk hcc hlc hot hst HRE hkl
    go_enter Try.func49, Try.ntmps49
    go_wp2_with fail
    refine HR1.out.mono ?_
    rintro e w' ⟨rfl, rfl⟩
    go_wp2_with fail
    refine HCV.out.mono ?_
    rintro e w3 ⟨u, d, rfl, hu, hp, hb3⟩
    have HU := Lib.hid hu
    have HP := Lib.hid hp
    have hbs : (W.alloc (.cells #[.pointer (some ⟨q, 0, none⟩), .map (some mb)] 83)).heap.size = W.heap.size + 1 := Array.size_push _
    have hx0 : (W.alloc (.cells #[.pointer (some ⟨q, 0, none⟩), .map (some mb)] 83)).cell? ⟨W.heap.size, 0, none⟩ = some (.pointer (some ⟨q, 0, none⟩)) ∧ (W.alloc (.cells #[.pointer (some ⟨q, 0, none⟩), .map (some mb)] 83)).cell? ⟨W.heap.size, 1, none⟩ = some (.map (some mb)) := by
      constructor <;> (unfold World.cell?; rw [show (W.alloc (.cells #[.pointer (some ⟨q, 0, none⟩), .map (some mb)] 83)).heap[W.heap.size]? = _ from heap_alloc_new W _]; rfl)
    have HB3 : Hid (Below W.heap.size W w3) := HAL.out.trans (hb3.mono HAL.out.size)
    have hx3 : W.heap.size < w3.heap.size := Nat.lt_of_lt_of_le (by rw [hbs]; exact Nat.lt_succ_self _) hb3.size
    have HX3 : Hid (w3.cell? ⟨W.heap.size, 0, none⟩ = some (.pointer (some ⟨q, 0, none⟩)) ∧ w3.cell? ⟨W.heap.size, 1, none⟩ = some (.map (some mb))) := ⟨(hb3.cell (p := ⟨W.heap.size, 0, none⟩) (by rw [hbs]; exact Nat.lt_succ_self _)).trans hx0.1, (hb3.cell (p := ⟨W.heap.size, 1, none⟩) (by rw [hbs]; exact Nat.lt_succ_self _)).trans hx0.2⟩
    have HK3 : Hid (KnS p w3 mb f n) := HK.out.blk (HB3.out.block mb HMB.out)
    have hmg : W.heap.size ∉ [mb] := by have := HMB.out; simp; omega
    have HUM : Hid (∀ a cc b off, u = .slice a d.length cc → a = some ⟨b, off, none⟩ → RowT w3 (NewB (W.alloc (.cells #[.pointer (some ⟨q, 0, none⟩), .map (some mb)] 83)) w3) u d → b ∉ [mb] ∨ d.length = 0) := fun a cc b off e1 e2 hr => by
      obtain ⟨a', c', e', _, _, h3⟩ := hr
      rw [e1] at e'
      injection e' with e' _ _
      rcases h3 with h3 | ⟨b', o', e3, _, h5, _⟩
      · exact .inr h3
      · left
        rw [← e', e2] at e3
        injection e3 with e3
        injection e3 with e3 _
        subst e3
        have := h5.1
        have := HMB.out
        simp
        omega
    obtain ⟨ua, uc, rfl, hu1, hu2, hu3⟩ := hu
    unfold maxLen at hu2
    have HX4 := Lib.hid hu3
    clear hp hb3 hbs hx0 hu3 HCV HR1
    generalize hN : d.length = N at *
    have HNN := Lib.hid hN
    clear hN
    have hw3s := HB3.out.size
    go_wp2_with fail
    go_loopw [7, 8, 20] (fun _ _ iv Z => ∃ (j : Nat) (f' : Int → Int) (n' : Nat), j ≤ N ∧ iv = .int .i64 (j : Int) ∧ KnS p Z mb f' n' ∧ n' + 2 * zeroN p f' ≤ C ∧ Cons p V i f' ∧ (∀ t, i ≤ t → t < p.tr.length → f' (vrI p t) = f (vrI p t)) ∧ Chg [mb] w3 Z ∧ ∀ t, t < j → d.getD t 0 = p.tr.getD i 0 ∨ ∀ a, a < i → vrI p a = absI (d.getD t 0) → Hen p V a) (fun _ _ iv _ => N - (intOf iv).toNat)
    case atStart => exact ⟨0, f, n, Nat.zero_le _, rfl, HK3.out, HN.out, HC0.out, fun _ _ _ => rfl, Chg.refl _ _, fun t ht => absurd ht (Nat.not_lt_zero _)⟩
    case round =>
      obtain ⟨j, f', n', hj, rfl, hK, hn, hc, hf, hch, hall⟩ := hrel
      have HKK := Lib.hid hK
      have HNZ := Lib.hid hn
      have HCC := Lib.hid hc
      have HFF := Lib.hid hf
      have HCH := Lib.hid hch
      have HAA := Lib.hid hall
      have c0 := (hch.cell (o := 0) hx3 hmg).trans HX3.out.1
      have c1 := (hch.cell (o := 1) hx3 hmg).trans HX3.out.2
      have HCW : Hid (∀ Z', Chg [mb] wr Z' → Chg [mb] W Z') := fun Z' h => by
        have h1 : Chg [mb] W w3 := Chg.of_below HB3.out
        exact (h1.trans hch (Fresh.refl _ _)).trans h (Fresh.refl _ _)
      have HPZ : Hid (PrS wr (.pointer (some ⟨q, 0, none⟩)) S p) := HPV.out wr (HCW.out wr (Chg.refl _ _))
      clear hK hn hc hf hch hall
      by_cases hlt : j < N
      · obtain ⟨b, off, ha, hbl, _, hcell⟩ := HX4.out.resolve_left (by omega)
        subst ha
        have hbm : b ∉ [mb] := (HUM.out _ _ b off rfl rfl HU.out).resolve_right (by omega)
        have y0 := (HCH.out.cell (o := off + j) hbl hbm).trans (hcell j hlt)
        obtain ⟨v1, v2, v3, v4, hxe, hxn⟩ := HX.out (d.getD j 0) (HP.out.mem_iff.1 (getD_mem (by rw [HNN.out]; exact hlt)))
        have HXE := Lib.hid hxe
        have HXN := Lib.hid hxn
        have HA1 : Hid (∀ Q : Prop, Q → (Q → d.getD j 0 = p.tr.getD i 0 ∨ ∀ a, a < i → vrI p a = absI (d.getD j 0) → Hen p V a) → ∀ t, t < j + 1 → d.getD t 0 = p.tr.getD i 0 ∨ ∀ a, a < i → vrI p a = absI (d.getD t 0) → Hen p V a) := fun Q hq h t ht => by
          by_cases e : t = j
          · rw [e]; exact h hq
          · exact HAA.out t (by omega)
        clear hcell hbm hxe hxn
        generalize d.getD j 0 = x at *
        have HVA := Lib.hid (fun Z => var_any x Z (by omega) (by omega))
        generalize absI x = ax at *
        by_cases hx : x = p.tr.getD i 0
        · 
          -- <Y1
          have hax := HXE.out hx
          have b1 : (ax != vi) = false := by simp [hax]
          have HA2 := Lib.hid (HA1.out True trivial fun _ => .inl hx)
          clear hx hax
          go_wp2_with fail
          refine (HVA.out _).mono ?_
          rintro e w' ⟨rfl, rfl⟩
          go_wp2_with fail
          go_roundw
          case rel => exact ⟨j + 1, f', n', by omega, by go_num, HKK.out, HNZ.out, HCC.out, HFF.out, HCH.out, HA2.out⟩
          case measure => go_light; simp [intOf]; omega
          -- Y1>
        · obtain ⟨hax, j0, hj0, hvj, hoth⟩ := HXN.out hx
          have b1 : (ax != vi) = true := by simp [hax]
          have HJ0 := Lib.hid hj0
          have HIS := Lib.hid (HIH.out j0 hj0 wr f' n' HPZ.out HKK.out HNZ.out (fun t ht htl => HCC.out t (by omega) htl))
          unfold IsPost at HIS
          rw [hvj] at HIS
          have HVJ := Lib.hid hvj
          have HOT := Lib.hid hoth
          clear hx hax hvj hoth hj0
          go_wp2_with fail
          refine (HVA.out _).mono ?_
          rintro e w' ⟨rfl, rfl⟩
          go_wp2_with fail
          refine HIS.out.mono ?_
          rintro e w5 ⟨bb, f5, n5, rfl, hbb, hK5, hn5, hc5, hf5, hch5⟩
          have HBB := Lib.hid hbb
          have HK5 := Lib.hid hK5
          have HN5 := Lib.hid hn5
          have HCI : Hid (Cons p V i f5) := fun t ht htl => by
            by_cases e : t < j0 + 1
            · exact hc5 t e htl
            · rw [hf5 t (by omega) htl]
              exact HCC.out t ht htl
          have HFI : Hid (∀ t, i ≤ t → t < p.tr.length → f5 (vrI p t) = f (vrI p t)) := fun t ht htl => by
            have := HJ0.out
            rw [hf5 t (by omega) htl]
            exact HFF.out t ht htl
          have HCH5 := Lib.hid (HCH.out.trans hch5 (Fresh.refl _ _))
          have HCW5 := Lib.hid (HCW.out w5 hch5)
          clear hbb hK5 hn5 hc5 hf5 hch5 HIS
          cases bb with
          | true =>
            have HA2 := Lib.hid (HA1.out True trivial fun _ => .inr fun a ha hva => by
              have : a = j0 := by
                have h1 := HJ0.out
                exact HW.out.vr_inj (by omega) (by omega) (by rw [hva, HVJ.out])
              rw [this]; exact HBB.out.1 rfl)
            go_wp2_with fail
            go_roundw
            case rel => exact ⟨j + 1, f5, n5, by omega, by go_num, HK5.out, HN5.out, HCI.out, HFI.out, HCH5.out, HA2.out⟩
            case measure => go_light; simp [intOf]; omega
          | false =>
            have HNH : Hid (¬ ByR p V i) := HNY.out j0 HJ0.out HOT.out fun h => by
              have := HBB.out.2 h
              cases this
            go_wp2_with fail
            go_ret
            exact ⟨false, f5, n5, rfl, ⟨(fun h => Bool.noConfusion h), (fun h => absurd h HNH.out)⟩, HK5.out, HN5.out, HCI.out, HFI.out, HCW5.out⟩
      · have e1 : decide ((j : Int) < (N : Int)) = false := decide_eq_false (by omega)
        have e2 : decide (j < N) = false := decide_eq_false hlt
        have HY : Hid (ByR p V i) := HBY.out d HP.out fun x hx => by
          obtain ⟨t, ht, e⟩ := mem_getD hx
          rw [← e]
          exact HAA.out t (by rw [HNN.out] at ht; omega)
        clear hlt
        go_wp2_with fail
        go_ret
        exact ⟨true, f', n', rfl, ⟨(fun _ => HY.out), (fun _ => rfl)⟩, HKK.out, HNZ.out, HCC.out, HFF.out, HCW.out wr (Chg.refl _ _)⟩
end Go.Proofs.Ytjlmooimdogmjaa
