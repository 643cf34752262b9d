/- The contract of learn.Shorten. Conditions: a prop as PrS has it, of at most ten thousand clauses; the clause is all false, not empty, of at most a hundred thousand literals. -/
import Derived.Test.YtjlmooimdogmjaaLg46
import Derived.Deep.RegionHeld3
set_option linter.unusedVariables false
set_option linter.unusedSimpArgs false
set_option linter.unusedVariables false
set_option linter.unusedSimpArgs false
namespace Go.Proofs.Ytjlmooimdogmjaa
open Go.RowKit Go.Maps

def yesF (xs : List Int) : Int → Int := fun v => if v ∈ xs.map (fun l => (plc l : Int)) then 1 else 0
theorem yesF_nil : yesF [] = fun _ => 0 := by funext v; simp [yesF]
theorem yesF_snoc (xs : List Int) (l : Int) : updF (yesF xs) (plc l : Int) 1 = yesF (xs ++ [l]) := by
  funext v
  unfold updF yesF
  by_cases e : v = (plc l : Int)
  · subst e; simp
  · rw [if_neg e, List.map_append]
    simp [e]
theorem yesF_cons {p : Pr} (xs : List Int) : ∀ n, Cons p (xs.map fun l => (plc l : Int)) n (yesF xs) := fun n j hj hjl => by
  by_cases h : vrI p j ∈ xs.map fun l => (plc l : Int)
  · exact .inr (.inl ⟨if_pos h, .giv h⟩)
  · exact .inl ⟨if_neg h, h⟩
theorem zeroN_tr {p : Pr} {f : Int → Int} : zeroN p f ≤ p.tr.length := by
  have := List.countP_le_length (p := fun v => decide (f v = 0)) (l := varsT p)
  unfold zeroN
  simpa [varsT] using this

/-- Shorten's own memory. -/
structure ShB (p : Pr) (B : Nat) (W : World) (mb hb : Nat) (v sv : Value) (f : Int → Int) (n : Nat) (ys : List Int) : Prop where
  kn : KnS p W mb f n
  x0 : W.cell? ⟨hb, 0, none⟩ = some v
  x1 : W.cell? ⟨hb, 1, none⟩ = some (.map (some mb))
  hl : hb < W.heap.size
  ow : W.ownsRow B 3 1 sv ys.length (ys.map (Value.int .i64))
  nm : ∀ k, sv.ownBlock = some k → k ≠ mb ∧ k ≠ hb
  mB : B ≤ mb
  hB : B ≤ hb
  hm : hb ≠ mb
section
variable {p : Pr} {B : Nat} {W W' : World} {mb hb : Nat} {v sv : Value} {f f' : Int → Int} {n n' : Nat} {ys : List Int}
theorem ShB.chgM (h : ShB p B W mb hb v sv f n ys) (hc : Chg [mb] W W') (hk : KnS p W' mb f' n') : ShB p B W' mb hb v sv f' n' ys ∧ Below B W W' :=
  ⟨⟨hk, (hc.cell (o := 0) h.hl (by simp; exact h.hm)).trans h.x0, (hc.cell (o := 1) h.hl (by simp; exact h.hm)).trans h.x1, Nat.lt_of_lt_of_le h.hl hc.size, own_chg h.ow hc (fun k e hk => by simp at hk; exact (h.nm k e).1 hk), h.nm, h.mB, h.hB, h.hm⟩, hc.below (Below.refl _ _) (Nat.le_trans h.hB (Nat.le_of_lt h.hl)) (by simp; exact h.mB)⟩
theorem ShB.app {sv' : Value} {x : Int} (h : ShB p B W mb hb v sv f n ys) (ha : App B W W' sv sv') (ho : W'.ownsRow B 3 1 sv' (ys.length + 1) ((ys ++ [x]).map (Value.int .i64))) : ShB p B W' mb hb v sv' f n (ys ++ [x]) ∧ Below B W W' := by
  have hc1 : Chg (rowB sv) W W' := Chg.app ha fun k hk => mem_rowB.2 hk
  have hn : ∀ k, sv'.ownBlock = some k → sv.ownBlock = some k ∨ W.heap.size ≤ k := fun k hk => by
    rcases ha.blk with e | ⟨q, e, hq⟩
    · exact .inl (e ▸ hk)
    · rw [e] at hk; injection hk with hk; subst hk; exact .inr hq
  have hb1 : hb ∉ rowB sv := fun hm => (h.nm hb (mem_rowB.1 hm)).2 rfl
  refine ⟨⟨h.kn.blk (hc1.block mb h.kn.lt fun hm => (h.nm mb (mem_rowB.1 hm)).1 rfl), (hc1.cell (o := 0) h.hl hb1).trans h.x0, (hc1.cell (o := 1) h.hl hb1).trans h.x1, Nat.lt_of_lt_of_le h.hl hc1.size, by rw [List.length_append]; exact ho, fun k hk => ?_, h.mB, h.hB, h.hm⟩, ha.below⟩
  rcases hn k hk with e | hge
  · exact h.nm k e
  · have := h.kn.lt; have := h.hl; omega
end

def ShY (p : Pr) (c xs ys : List Int) : Prop := (∀ l ∈ ys, l ∈ xs) ∧ ys.length ≤ xs.length ∧ (0 < xs.length → ∃ r, ys = xs.getD 0 0 :: r) ∧ ∀ l ∈ xs, l ∈ ys ∨ ∃ i, i < p.tr.length ∧ vrI p i = (plc l : Int) ∧ ByR p (c.map fun l => (plc l : Int)) i
theorem ShY.nil (p : Pr) (c : List Int) : ShY p c [] [] := ⟨by simp, by simp, by simp, by simp⟩
theorem ShY.put {p : Pr} {c xs ys : List Int} (h : ShY p c xs ys) (l : Int) (h0 : xs = [] → ys = []) : ShY p c (xs ++ [l]) (ys ++ [l]) := by
  refine ⟨fun x hx => ?_, by simp; exact h.2.1, fun _ => ?_, fun x hx => ?_⟩
  · rcases List.mem_append.1 hx with h' | h'
    · exact List.mem_append.2 (.inl (h.1 x h'))
    · exact List.mem_append.2 (.inr h')
  · cases xs with
    | nil => rw [h0 rfl]; exact ⟨[], by simp⟩
    | cons x xs =>
      obtain ⟨r, e⟩ := h.2.2.1 (by simp)
      exact ⟨r ++ [l], by rw [e]; simp⟩
  · rcases List.mem_append.1 hx with h' | h'
    · exact (h.2.2.2 x h').imp (fun h => List.mem_append.2 (.inl h)) id
    · exact .inl (List.mem_append.2 (.inr h'))
theorem ShY.leave {p : Pr} {c xs ys : List Int} (h : ShY p c xs ys) {l : Int} {i : Nat} (h0 : 0 < xs.length) (hi : i < p.tr.length) (hv : vrI p i = (plc l : Int)) (hb : ByR p (c.map fun l => (plc l : Int)) i) : ShY p c (xs ++ [l]) ys := by
  refine ⟨fun x hx => List.mem_append.2 (.inl (h.1 x hx)), by simp; have := h.2.1; omega, fun _ => ?_, fun x hx => ?_⟩
  · obtain ⟨r, e⟩ := h.2.2.1 h0
    refine ⟨r, ?_⟩
    rw [e]
    cases xs with
    | nil => simp at h0
    | cons x xs => simp
  · rcases List.mem_append.1 hx with h' | h'
    · exact h.2.2.2 x h'
    · simp at h'; subst h'; exact .inr ⟨i, hi, hv, hb⟩

set_option maxRecDepth 8000 in
set_option maxHeartbeats 8000000 in
theorem shorten_any {v : Value} {S : List Nat} {p : Pr} {T : Nat → Prop} (w : World) (hs : PrS w v S p) (hcl : p.cl.length ≤ 10000) (u : Value) (c : List Int) (hu : RowT w T u c) (hT : ∀ i, T i → i < w.heap.size) (hc : AllF p c) (h0 : c ≠ []) (hlc : c.length ≤ 100000) :
    Calls Try.prog 20 #[v, u] w fun e w' => ∃ s y, e = .returned s ∧ RowT w' (NewB w w') s y ∧ ShY p c c y ∧ Below w.heap.size w w' := by
  have hw := hs.wf
  have HW := Lib.hid hw
  have HCL := Lib.hid hcl
  have HPV : Hid (∀ V, Below w.heap.size w V → PrS V v S p) := fun V hV => hs.below hV
  have HSB := Lib.hid hs.lt
  have HX : Hid (∀ l ∈ c, (-4000 ≤ l ∧ l ≤ 4000) ∧ absI l = (plc l : Int) ∧ 1 ≤ absI l ∧ absI l ≤ 4000 ∧ valP p l = 2 ∧ ∃ i, i < p.tr.length ∧ vrI p i = (plc l : Int)) := fun l hl => by
    have h1 := hc l hl
    have hlb := hw.rgt _ h1
    rw [plc_negate] at hlb
    have hn := hw.n
    have hla := plc_absI l
    have hlc : absI l = l ∨ absI l = -l := by unfold absI; split <;> simp
    obtain ⟨i, hi, e⟩ := List.getElem_of_mem h1
    refine ⟨by omega, by omega, by omega, by omega, hw.val_false.2 h1, i, hi, ?_⟩
    unfold vrI
    rw [List.getD, List.getElem?_eq_getElem hi, e]
    exact congrArg _ (plc_negate l)
  have HTL : Hid (p.tr.length ≤ 4001) := Nat.le_trans hw.tr_len (by have := hw.n; omega)
  have HU := Lib.hid hu
  have HTT := Lib.hid hT
  obtain ⟨q, rfl⟩ := hs.ptr
  have hmm := @run_makeMap Try.prog
  obtain ⟨a, cc, rfl, hu1, hu2, hu3⟩ := hu
  unfold maxLen at hu2
  have HC := Lib.hid hc
  have hlen0 : 0 < c.length := List.length_pos_iff.2 h0
  have HCT : Hid (∀ j, j < c.length → c.take (j + 1) = c.take j ++ [c.getD j 0] ∧ c.getD j 0 ∈ c) := fun j hj => ⟨take_snoc c j hj, getD_mem hj⟩
  clear hs hw hcl hc hT hu3 h0
  generalize hL : c.length = L at *
  have HL := Lib.hid hL
  clear hL
  have hs1 : (w.alloc (.map #[] 0)).heap.size = w.heap.size + 1 := Array.size_push _
  have hs2 : ((w.alloc (.map #[] 0)).alloc (.cells #[.pointer (some ⟨q, 0, none⟩), .map (some w.heap.size)] 83)).heap.size = w.heap.size + 2 := by
    show ((w.alloc (.map #[] 0)).heap.push _).size = _
    rw [Array.size_push, hs1]
  have HB0 : Hid (ShB p w.heap.size ((w.alloc (.map #[] 0)).alloc (.cells #[.pointer (some ⟨q, 0, none⟩), .map (some w.heap.size)] 83)) w.heap.size (w.heap.size + 1) (.pointer (some ⟨q, 0, none⟩)) (.slice none 0 0) (yesF (c.take 0)) 0 []) := by
    have hx0 : ((w.alloc (.map #[] 0)).alloc (.cells #[.pointer (some ⟨q, 0, none⟩), .map (some w.heap.size)] 83)).heap[w.heap.size + 1]? = some (.cells #[.pointer (some ⟨q, 0, none⟩), .map (some w.heap.size)] 83) := by
      have := heap_alloc_new (w.alloc (.map #[] 0)) (.cells #[.pointer (some ⟨q, 0, none⟩), .map (some w.heap.size)] 83)
      rw [hs1] at this
      exact this
    refine ⟨?_, ?_, ?_, by rw [hs2]; omega, World.ownsRow_nil _ _ _ _, (fun k e => by cases e), Nat.le_refl _, by omega, by omega⟩
    · rw [List.take_zero, yesF_nil]
      exact (KnS.made w).blk (((Below.refl (w.alloc (.map #[] 0)).heap.size _).alloc (Nat.le_refl _) _).block w.heap.size (by rw [hs1]; omega))
    · unfold World.cell?; rw [hx0]; rfl
    · unfold World.cell?; rw [hx0]; rfl
  have HBW0 : Hid (Below w.heap.size w ((w.alloc (.map #[] 0)).alloc (.cells #[.pointer (some ⟨q, 0, none⟩), .map (some w.heap.size)] 83))) := ((Below.refl _ _).alloc (Nat.le_refl _) _).alloc (by rw [hs1]; omega) _
  have HUK : Hid (∀ V, Below w.heap.size w V → RowT V T (.slice a L cc) c) := fun V hV => HU.out.keep (Kp.below hV HTT.out)
  clear hs1 hs2 HU
  go_enter Try.func20, Try.ntmps20
  go_upto_region 2 with fail
  clear hmm
  generalize (w.alloc (.map #[] 0)).alloc (.cells #[.pointer (some ⟨q, 0, none⟩), .map (some w.heap.size)] 83) = w1 at *
  generalize hBe : w.heap.size = B at *
  have HBE := Lib.hid hBe
  clear hBe
  go_wp2_with fail
  go_loopw [7, 16] (fun _ iv W => ∃ j : Nat, j ≤ L ∧ iv = .int .i64 (j : Int) ∧ ShB p B W B (B + 1) (.pointer (some ⟨q, 0, none⟩)) (.slice none 0 0) (yesF (c.take j)) j [] ∧ Below B w W) (fun _ iv _ => L - (intOf iv).toNat)
  case atStart => exact ⟨0, Nat.zero_le _, rfl, HB0.out, HBW0.out⟩
  case round =>
    obtain ⟨j, hj, rfl, hB, hbw⟩ := hrel
    have HB := Lib.hid hB
    have HBW := Lib.hid hbw
    clear hB hbw HB0 HBW0
    by_cases hlt : j < L
    · as_aux_lemma =>
      -- <L1
      obtain ⟨a', c', e', _, _, hx3⟩ := HUK.out _ HBW.out
      injection e' with e1 e2 e3
      subst e1; subst e3
      clear e2
      obtain ⟨b, off, ha, hbl, _, hcell⟩ := hx3.resolve_left (by rw [HL.out]; omega)
      subst ha
      have y0 := hcell j (by rw [HL.out]; exact hlt)
      obtain ⟨htk, hin⟩ := HCT.out j hlt
      obtain ⟨⟨hx1, hx2⟩, hpl, v1, v2, hval, -⟩ := HX.out _ hin
      have HTK := Lib.hid htk
      have HPL := Lib.hid hpl
      clear hcell hx3 htk hin hpl
      generalize c.getD j 0 = x at *
      have HVA := Lib.hid (fun Z => var_any x Z (by omega) (by omega))
      have HVV := Lib.hid (pval_any wr (HPV.out _ HBW.out) x (by omega) (by omega))
      rw [hval] at HVV
      clear hval
      have x0 := HB.out.x0
      have x1 := HB.out.x1
      obtain ⟨D, k1, k2, k3⟩ := HB.out.kn.ex
      have hkey := keyI (absI x) (by omega) (by omega)
      generalize hax : absI x = ax at *
      have HAX := Lib.hid hax
      clear hax
      go_wp2_with fail
      refine HVV.out.mono ?_
      rintro e w' ⟨rfl, rfl⟩
      go_upto_region 6 with fail
      have x1d : wr.drew.cell? ⟨B + 1, 1, none⟩ = some (.map (some B)) := x1
      have hUP : ∀ Z : World, Z.heap[B]? = wr.heap[B]? → ∃ w', (Instr.mapUpdate 81 (.map (some B)) (.int .i64 ax) (.int .i64 1)).run Try.prog Z = .ok () w' ∧ w'.ownsMap Try.prog 3 (plainElem (H := Unit) Try.prog 3) B (j + 1) (D.put (.int .i64 ax) (.lit (.int .i64 1))) ∧ Z.grownBy w' (some B) := fun Z hZ =>
        (ownsMap_block k1 hZ).update lawI Try.underlying81 (by unfold maxLen; omega) hkey (plainElem_int Try.underlying3 (WalkArith.wf_i64 ⟨by omega, by omega⟩))
      obtain ⟨w2, hr2, ho2, hg2⟩ := hUP wr rfl
      obtain ⟨w2d, hr2d, ho2d, hg2d⟩ := hUP wr.drew rfl
      have HO2 : Hid (∀ Z, Z = w2 ∨ Z = w2d → Z.ownsMap Try.prog 3 (plainElem (H := Unit) Try.prog 3) B (j + 1) (D.put (.int .i64 ax) (.lit (.int .i64 1))) ∧ Chg [B] wr Z) := by
        rintro Z (rfl | rfl)
        · exact ⟨ho2, Chg.grown hg2 (by simp)⟩
        · exact ⟨ho2d, (Chg.of_below (Below.refl _ _).drew).trans (Chg.grown hg2d (by simp)) (Fresh.refl _ _)⟩
      have HK2 : Hid (∀ Z, Z = w2 ∨ Z = w2d → KnS p Z B (yesF (c.take (j + 1))) (j + 1)) := fun Z hZ => by
        rw [HTK.out, ← yesF_snoc, ← HPL.out]
        exact KnS.put (W := Z) k2 k3 (HO2.out Z hZ).1
      have HB2 : Hid (∀ Z, Z = w2 ∨ Z = w2d → ShB p B Z B (B + 1) (.pointer (some ⟨q, 0, none⟩)) (.slice none 0 0) (yesF (c.take (j + 1))) (j + 1) [] ∧ Below B w Z) := fun Z hZ => by
        obtain ⟨h1, h2⟩ := HB.out.chgM (HO2.out Z hZ).2 (HK2.out Z hZ)
        exact ⟨h1, HBW.out.trans h2⟩
      clear hUP ho2 hg2 ho2d hg2d k1 k2 k3 HO2 HK2
      go_region_with (first
        | (go_at_call 41; refine (HVA.out _).mono ?_; rintro e w' ⟨rfl, rfl⟩))
      all_goals
        go_wp2_with fail
        go_roundw
        case rel => exact ⟨j + 1, by omega, by go_num, (HB2.out _ (by first | exact .inl rfl | exact .inr rfl)).1, (HB2.out _ (by first | exact .inl rfl | exact .inr rfl)).2⟩
        case measure => go_light; simp [intOf]; omega
      -- L1>
    · have e1 : decide ((j : Int) < (L : Int)) = false := decide_eq_false (by omega)
      have e2 : decide (j < L) = false := decide_eq_false hlt
      have HBL : Hid (ShB p B wr B (B + 1) (.pointer (some ⟨q, 0, none⟩)) (.slice none 0 0) (yesF c) L []) := by
        have h1 := HB.out
        have h2 : j = L := by omega
        rw [h2] at h1
        have h3 := List.take_length (l := c)
        rw [HL.out] at h3
        rwa [h3] at h1
      clear HB hlt hj
      have HBS := fun (i : Nat) (hi : i < p.tr.length) => isB_any (V := c.map fun l => (plc l : Int)) (v := .pointer (some ⟨q, 0, none⟩)) HCL.out (S := S) (mb := B) (fun hm => Nat.lt_irrefl _ (HSB.out B hm)) (i + 1) i (Nat.lt_succ_self _) hi (L + 8002) (by omega)
      have HBY := Lib.hid fun i hi => (HBS i hi).2
      clear HBS
      have HCC : Hid (L + 2 * zeroN p (yesF c) ≤ L + 8002) := by
        have h1 := zeroN_tr (p := p) (f := yesF c)
        have h2 := HTL.out
        unfold Hid
        omega
      go_wp2_with fail
      go_loopw [8, 9, 10, 31] (fun sv _ _ iv W => ∃ (j : Nat) (f : Int → Int) (n : Nat) (ys : List Int), j ≤ L ∧ iv = .int .i64 (j : Int) ∧ ShB p B W B (B + 1) (.pointer (some ⟨q, 0, none⟩)) sv f n ys ∧ Cons p (c.map fun l => (plc l : Int)) p.tr.length f ∧ n + 2 * zeroN p f ≤ L + 8002 ∧ ShY p c (c.take j) ys ∧ Below B w W) (fun _ _ _ iv _ => L - (intOf iv).toNat)
      case atStart => exact ⟨0, yesF c, L, [], Nat.zero_le _, rfl, HBL.out, yesF_cons c _, HCC.out, by rw [List.take_zero]; exact ShY.nil p c, HBW.out⟩
      case round =>
        clear HBL HCC HBW e1 e2
        obtain ⟨t, f, n, ys, ht, rfl, hB, hcn, hnz, hY, hbw⟩ := hrel
        have HB := Lib.hid hB
        have HBW := Lib.hid hbw
        have HCN := Lib.hid hcn
        have HNZ := Lib.hid hnz
        have HY := Lib.hid hY
        obtain ⟨sa, sc, rfl, hs1, hs2⟩ := own_shape hB.ow
        unfold maxLen at hs2
        clear hB hbw hcn hnz hY
        by_cases hlt : t < L
        · obtain ⟨a', c', e', _, _, hx3⟩ := HUK.out _ HBW.out
          injection e' with e1 e2 e3
          subst e1; subst e3
          clear e2
          obtain ⟨b, off, ha, hbl, _, hcell⟩ := hx3.resolve_left (by rw [HL.out]; omega)
          subst ha
          have y0 := hcell t (by rw [HL.out]; exact hlt)
          obtain ⟨htk, hin⟩ := HCT.out t hlt
          obtain ⟨⟨hx1, hx2⟩, hpl, v1, v2, hval, i, hi, hvi⟩ := HX.out _ hin
          have HTK := Lib.hid htk
          have HPL := Lib.hid hpl
          have hyl : ys.length ≤ t := by
            have := HY.out.2.1
            rw [List.length_take, HL.out] at this
            omega
          have HTJ : Hid (0 < t → 0 < (c.take t).length) := fun h => by rw [List.length_take, HL.out]; omega
          have HPUT : Hid (ShY p c (c.take (t + 1)) (ys ++ [c.getD t 0])) := by
            unfold Hid
            rw [htk]
            refine HY.out.put _ fun h => ?_
            have h1 : (c.take t).length = 0 := by rw [h]; rfl
            rw [List.length_take, HL.out] at h1
            exact List.length_eq_zero_iff.1 (by omega)
          have HLV : Hid (0 < t → ByR p (c.map fun l => (plc l : Int)) i → ShY p c (c.take (t + 1)) ys) := fun h hb => by
            rw [htk]
            exact HY.out.leave (HTJ.out h) hi hvi hb
          have hby := HBY.out i hi
          have HII := Lib.hid hi
          rw [← hpl] at hvi
          clear hcell hx3 htk hin hpl
          have hsz : B ≤ wr.heap.size := Nat.le_trans HB.out.hB (Nat.le_of_lt HB.out.hl)
          generalize c.getD t 0 = x at *
          have x0 := HB.out.x0
          have x1 := HB.out.x1
          by_cases ht0 : t = 0
          · as_aux_lemma =>
            -- <FIRST
            subst ht0
            have HO := Lib.hid HB.out.ow
            rw [Nat.add_zero] at y0
            clear hby HLV hvi x0 x1 hval
            go_wp2_with fail
            go_quiet (fail)
            go_wp2_with (at_builtin; refine wpList_app1 rfl _ _ rfl _ B _ ys.length ys x HO.out hsz (by omega) rfl rfl ?_; intro sv3 w3 ho3 ha3)
            obtain ⟨hBd, hbd⟩ := HB.out.chgM (Chg.of_below (below_draws ⟨nq, rfl⟩)) (HB.out.kn.blk (W' := wr.drewN nq) rfl)
            obtain ⟨hB3, hb3⟩ := hBd.app ha3 ho3
            have HB3 := Lib.hid hB3
            have HBW3 : Hid (Below B w w3) := HBW.out.trans (hbd.trans hb3)
            clear hBd hbd hB3 hb3 ho3 ha3
            go_roundw
            case rel => exact ⟨1, f, n, ys ++ [x], by omega, by go_num, HB3.out, HCN.out, HNZ.out, HPUT.out, HBW3.out⟩
            case measure => go_light; simp [intOf]; omega
            -- FIRST>
          · -- <NEXT
            have hb0 : ((t : Int) == 0) = false := by rw [beq_eq_false_iff_ne]; omega
            have HLV2 := Lib.hid (HLV.out (by omega))
            clear HLV
            have x0d : wr.drew.cell? ⟨B + 1, 0, none⟩ = some (.pointer (some ⟨q, 0, none⟩)) := x0
            have x1d : wr.drew.cell? ⟨B + 1, 1, none⟩ = some (.map (some B)) := x1
            have HVA := Lib.hid (fun Z => var_any x Z (by omega) (by omega))
            have HVV : Hid (∀ Z, Below wr.heap.size wr Z → Calls Try.prog 11 #[.pointer (some ⟨q, 0, none⟩), .int .i64 x] Z fun e w' => e = .returned (.int .i64 2) ∧ Z = w') := fun Z hZ => by
              have := pval_any Z (HPV.out _ (HBW.out.trans (hZ.mono hsz))) x (by omega) (by omega)
              rwa [hval] at this
            have HBR : Hid (∀ Z, Below wr.heap.size wr Z → Calls Try.prog 49 #[.agg #[.pointer (some ⟨q, 0, none⟩), .map (some B)], .int .i64 (absI x)] Z fun e w' => ∃ bb f' n', e = .returned (.bool bb) ∧ (bb = true → ShY p c (c.take (t + 1)) ys) ∧ ShB p B w' B (B + 1) (.pointer (some ⟨q, 0, none⟩)) (.slice sa ys.length sc) f' n' ys ∧ Cons p (c.map fun l => (plc l : Int)) p.tr.length f' ∧ n' + 2 * zeroN p f' ≤ L + 8002 ∧ Below B w w') := fun Z hZ => by
              have hcz : Chg [B] wr Z := Chg.of_below hZ
              obtain ⟨hBZ, hbz⟩ := HB.out.chgM hcz (HB.out.kn.blk (hZ.block B HB.out.kn.lt))
              have := hby Z f n (HPV.out _ (HBW.out.trans hbz)) hBZ.kn HNZ.out fun a ha hal => HCN.out a hal hal
              rw [hvi] at this
              refine this.mono ?_
              rintro e w' ⟨bb, f', n', h1, h2, h3, h4, h5, h6, h7⟩
              obtain ⟨hB', hb'⟩ := hBZ.chgM h7 h3
              refine ⟨bb, f', n', h1, fun hb => HLV2.out (h2.1 hb), hB', fun a ha hal => ?_, h4, HBW.out.trans (hbz.trans hb')⟩
              by_cases hai : a < i
              · exact h5 a hai hal
              · rw [h6 a (by omega) hal]
                exact HCN.out a hal hal
            clear hby hvi hval HLV2 hsz
            go_upto_region 12 with fail
            go_region_with (first
              | (go_at_call 41; refine (HVA.out _).mono ?_; rintro e w' ⟨rfl, rfl⟩)
              | (go_at_call 11; refine (HVV.out _ (by first | exact Below.refl _ _ | exact (Below.refl _ _).drew)).mono ?_; rintro e w' ⟨rfl, rfl⟩)
              | (go_at_call 49; refine (HBR.out _ (by first | exact Below.refl _ _ | exact (Below.refl _ _).drew)).mono ?_; rintro e w5 ⟨bb, f5, n5, rfl, hbb, hB5, hc5, hn5, hb5⟩))
            all_goals
              have HBB := Lib.hid hbb
              have HB5 := Lib.hid hB5
              have HC5 := Lib.hid hc5
              have HN5 := Lib.hid hn5
              have HW5 := Lib.hid hb5
              have HO5 := Lib.hid hB5.ow
              have hsz5 : B ≤ w5.heap.size := Nat.le_trans hB5.hB (Nat.le_of_lt hB5.hl)
              clear hbb hB5 hc5 hn5 hb5 HBR HVV HVA x0 x1 x0d x1d y0
              cases bb with
              | true =>
                have HY5 := Lib.hid (HBB.out (by first | exact rfl | trivial))
                go_wp2_with fail
                go_roundw
                case rel => exact ⟨t + 1, f5, n5, ys, by omega, by go_num, HB5.out, HC5.out, HN5.out, HY5.out, HW5.out⟩
                case measure => go_light; simp [intOf]; omega
              | false =>
                go_wp2_with (at_builtin; refine wpList_app1 rfl _ _ rfl _ B _ ys.length ys x HO5.out hsz5 (by omega) rfl rfl ?_; intro sv3 w3 ho3 ha3)
                obtain ⟨hB3, hb3⟩ := HB5.out.app ha3 ho3
                have HB3 := Lib.hid hB3
                have HBW3 : Hid (Below B w w3) := HW5.out.trans hb3
                clear hB3 hb3 ho3 ha3
                go_roundw
                case rel => exact ⟨t + 1, f5, n5, ys ++ [x], by omega, by go_num, HB3.out, HC5.out, HN5.out, HPUT.out, HBW3.out⟩
                case measure => go_light; simp [intOf]; omega
            -- NEXT>
        · have e1 : decide ((t : Int) < (L : Int)) = false := decide_eq_false (by omega)
          have e2 : decide (t < L) = false := decide_eq_false hlt
          have HYF : Hid (ShY p c c ys) := by
            have h1 := HY.out
            have h2 : t = L := by omega
            rw [h2] at h1
            have h3 := List.take_length (l := c)
            rw [HL.out] at h3
            rwa [h3] at h1
          have HO := Lib.hid HB.out.ow
          clear hlt
          go_wp2_with fail
          go_ret
          exact ⟨_, ys, rfl, own_rowT HO.out fun i h1 h2 => ⟨by rw [HBE.out]; exact h1, h2⟩, HYF.out, by rw [HBE.out]; exact HBW.out⟩
end Go.Proofs.Ytjlmooimdogmjaa
