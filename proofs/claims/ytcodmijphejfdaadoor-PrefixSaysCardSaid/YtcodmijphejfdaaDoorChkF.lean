/- The contract of qdimacs.Check: which fault it tells. Conditions: the formula reads as lists of 64-bit ints, short ones; the package's errors lie as 'Sents3' says. -/
import Derived.Test.YtcodmijphejfdaaDoorBlkT
import Derived.Test.YtcodmijphejfdaaDoorBlkD
import Derived.Test.YtcodmijphejfdaaDoorCheck
namespace Go.Proofs.YtcodmijphejfdaaDoor
open Go.RowKit

/-- The fault that Check tells of a formula. -/
def CheckFF (vars : Int) (bs : List Blk) (xss : List (List Int)) (c : Int) (p : Bool) (k : Int) : Prop :=
  (c ≠ 0 ∧ CheckF vars xss c p k) ∨ (CheckF vars xss 0 false 0 ∧ ((blksBad vars 0 [] bs = none ∧ c = 0 ∧ p = false ∧ k = 0) ∨ ∃ i : Nat, blksBad vars 0 [] bs = some i ∧ c = 104 ∧ p = true ∧ k = i))
theorem checkF_same {vars : Int} {xss : List (List Int)} {c c' : Int} {p p' : Bool} {k k' : Int} (h : CheckF vars xss c p k) (h' : CheckF vars xss c' p' k') : c' = c ∧ p' = p ∧ k' = k := by
  have hAB : ∀ {i}, firstBad vars xss i → ¬ allIs vars xss := fun {i} hb ha => by
    obtain ⟨h1, _, l, h2, h3⟩ := hb
    have := ha (xss.getD i []) (by simp [List.getD, h1]) l h2
    rw [h3] at this
    cases this
  rcases h with ⟨h1, rfl, rfl, rfl⟩ | ⟨h1, i, h2, rfl, rfl, rfl⟩ | ⟨h1, h2, rfl, rfl, rfl⟩ <;> rcases h' with ⟨g1, rfl, rfl, rfl⟩ | ⟨g1, j, g2, rfl, rfl, rfl⟩ | ⟨g1, g2, rfl, rfl, rfl⟩
  · exact ⟨rfl, rfl, rfl⟩
  · exact absurd h1 g1
  · exact absurd h1 g1
  · exact absurd g1 h1
  · have : j = i := by
      rcases Nat.lt_trichotomy j i with e | e | e
      · obtain ⟨_, _, l, h5, h6⟩ := g2
        have := h2.2.1 j e l h5
        rw [h6] at this; cases this
      · exact e
      · obtain ⟨_, _, l, h5, h6⟩ := h2
        have := g2.2.1 i e l h5
        rw [h6] at this; cases this
    subst this
    exact ⟨rfl, rfl, rfl⟩
  · exact absurd g2 (hAB h2)
  · exact absurd g1 h1
  · exact absurd h2 (hAB g2)
  · exact ⟨rfl, rfl, rfl⟩
theorem first_bad (vars : Int) (xss : List (List Int)) : ∀ k, k ≤ xss.length → (∀ j, j < k → ∀ l ∈ xss.getD j [], isB vars l = true) ∨ ∃ i, firstBad vars xss i
  | 0, _ => .inl fun j hj => absurd hj (Nat.not_lt_zero _)
  | k + 1, h => by
    rcases first_bad vars xss k (by omega) with h1 | h1
    · by_cases h2 : ∀ l ∈ xss.getD k [], isB vars l = true
      · left
        intro j hj
        by_cases e : j = k
        · subst e; exact h2
        · exact h1 j (by omega)
      · right
        simp only [Classical.not_forall, Bool.not_eq_true] at h2
        obtain ⟨l, h3, h4⟩ := h2
        exact ⟨k, by omega, h1, l, h3, h4⟩
    · exact .inr h1
theorem checkF_some (vars : Int) (xss : List (List Int)) : (∃ c p k, CheckF vars xss c p k ∧ c ≠ 0) ∨ CheckF vars xss 0 false 0 := by
  by_cases ht : tooMuch vars xss
  · exact .inl ⟨102, false, 0, .inl ⟨ht, rfl, rfl, rfl⟩, by omega⟩
  · rcases first_bad vars xss xss.length (Nat.le_refl _) with h | ⟨i, h⟩
    · refine .inr (.inr (.inr ⟨ht, fun xs hxs l hl => ?_, rfl, rfl, rfl⟩))
      obtain ⟨i, hi, rfl⟩ := List.getElem_of_mem hxs
      exact h i hi l (by simpa [List.getD, hi] using hl)
    · exact .inl ⟨104, true, i, .inr (.inl ⟨ht, i, h, rfl, rfl, rfl⟩), by omega⟩
theorem checkFF_same {vars : Int} {bs : List Blk} {xss : List (List Int)} {c c' : Int} {p p' : Bool} {k k' : Int} (h : CheckFF vars bs xss c p k) (h' : CheckFF vars bs xss c' p' k') : c' = c ∧ p' = p ∧ k' = k := by
  rcases h with ⟨h0, h1⟩ | ⟨h1, h2⟩ <;> rcases h' with ⟨g0, g1⟩ | ⟨g1, g2⟩
  · exact checkF_same h1 g1
  · exact absurd (checkF_same h1 g1).1.symm h0
  · exact absurd (checkF_same h1 g1).1 g0
  · rcases h2 with ⟨e1, rfl, rfl, rfl⟩ | ⟨i, e1, rfl, rfl, rfl⟩ <;> rcases g2 with ⟨e2, rfl, rfl, rfl⟩ | ⟨j, e2, rfl, rfl, rfl⟩
    · exact ⟨rfl, rfl, rfl⟩
    · rw [e1] at e2; cases e2
    · rw [e1] at e2; cases e2
    · rw [e1] at e2
      obtain rfl := Option.some.inj e2
      exact ⟨rfl, rfl, rfl⟩
/-- In a block: what is left of it, and the blocks behind. -/
def blksIn (vars : Int) (i : Nat) (met vs : List Int) (r : List Blk) : Option Nat := match varsOk vars met vs with
  | none => some i
  | some m => blksBad vars (i + 1) m r
theorem bb_end (vars : Int) (bs : List Blk) (i : Nat) (met : List Int) (h : bs.length ≤ i) : blksBad vars i met (bs.drop i) = none := by
  rw [List.drop_eq_nil_of_le h, blksBad]
theorem bb_in (vars : Int) (bs : List Blk) (i : Nat) (met : List Int) (h : i < bs.length) : blksBad vars i met (bs.drop i) = blksIn vars i met (bs.getD i blk0).2 (bs.drop (i + 1)) := by
  rw [List.drop_eq_getElem_cons h, blksBad, show bs.getD i blk0 = bs[i] by simp [List.getD, h]]
  rfl
theorem bn_end (vars : Int) (i j : Nat) (met vs : List Int) (r : List Blk) (h : vs.length ≤ j) : blksIn vars i met (vs.drop j) r = blksBad vars (i + 1) met r := by
  rw [List.drop_eq_nil_of_le h]; rfl
theorem bn_ok (vars : Int) (i j : Nat) (met vs : List Int) (r : List Blk) (h : j < vs.length) (hk : okV vars met (vs.getD j 0) = true) : blksIn vars i met (vs.drop j) r = blksIn vars i (met ++ [vs.getD j 0]) (vs.drop (j + 1)) r := by
  rw [List.drop_eq_getElem_cons h]
  have e : vs.getD j 0 = vs[j] := by simp [List.getD, h]
  rw [e] at hk ⊢
  unfold blksIn
  rw [varsOk, if_pos hk]
theorem bn_bad (vars : Int) (i j : Nat) (met vs : List Int) (r : List Blk) (h : j < vs.length) (hk : okV vars met (vs.getD j 0) = false) : blksIn vars i met (vs.drop j) r = some i := by
  rw [List.drop_eq_getElem_cons h]
  have e : vs.getD j 0 = vs[j] := by simp [List.getD, h]
  rw [e] at hk
  unfold blksIn
  rw [varsOk, if_neg (by rw [hk]; simp)]

def ChkPost (A : Nat → Addr) (w : World) (vars : Int) (bs : List Blk) (xss : List (List Int)) (e : Ending) (w' : World) : Prop :=
  ∃ ev c p k, e = .returned ev ∧ CheckFF vars bs xss c p k ∧ ErrR A w' ev c p k ∧ (c = 0 → ev = .nilIface) ∧ Below w.heap.size w w'

set_option maxHeartbeats 4000000 in
theorem checkFm_any (A : Nat → Addr) (vars : Int) (q : Option Addr) (d : Nat) (bs : List Blk) (a : Option Addr) (cap : Nat) (xss : List (List Int)) (w : World) (hS : Sents3 w A) (hv1 : -9223372036854775808 ≤ vars) (hv2 : vars ≤ 9223372036854775807) (hq : BRowsAt w q d bs) (hr : RowsAt w a cap xss)
    (hint : ∀ xs ∈ xss, ∀ l ∈ xs, -9223372036854775807 ≤ l ∧ l ≤ 9223372036854775807) (hlen : ∀ xs ∈ xss, xs.length < 1000000000) :
    Calls Tryd.prog 25 #[.agg #[.slice q bs.length d, .int .i64 vars, .slice a xss.length cap]] w (ChkPost A w vars bs xss) := by
  have HCK := Lib.hid (fun W (hW : Below w.heap.size w W) => check_any A vars a cap xss W (hS.keep hW) hv1 hv2 (hr.keep hW) hint hlen)
  have HT := Lib.hid (fun (k : Int) W => qat_any A k 3 W)
  have c3 := hS.c3
  have z3 : 1 < w.heap.size := World.block_lt_of_cell? w _ c3
  have HC3 : Hid (∀ W, Below w.heap.size w W → W.cell? ⟨1, 0, none⟩ = some (.iface 149 (.pointer (some (A 3))))) := fun W hW => (hW.cell (p := ⟨1, 0, none⟩) z3).trans c3
  have HSS := Lib.hid (fun W (hW : Below w.heap.size w W) => (hS.keep hW))
  have HBX : Hid (∀ o, Below w.heap.size w (w.alloc o)) := fun o => (Below.refl _ w).alloc (Nat.le_refl _) _
  obtain ⟨hq1, hq2, hq3⟩ := hq
  unfold maxLen at hq2
  have HQ3 := Lib.hid hq3; clear hq3
  have hvb : CheckF vars xss 0 false 0 → 0 ≤ vars ∧ vars ≤ 4000 := fun h => by
    rcases h with ⟨_, h, _⟩ | ⟨_, _, _, h, _⟩ | ⟨h, _⟩
    · omega
    · omega
    · unfold tooMuch at h; omega
  have HVB := Lib.hid hvb; clear hvb
  clear hS c3 hr hint hlen
  unfold CheckPost at HCK
  have HNIL : Hid (∀ W, Below w.heap.size w W → CheckF vars xss 0 false 0 → blksBad vars 0 [] bs = none → ChkPost A w vars bs xss (.returned .nilIface) W) := fun W hW h0 h1 => ⟨_, 0, false, 0, rfl, .inr ⟨h0, .inl ⟨h1, rfl, rfl, rfl⟩⟩, errR_nil A _, fun _ => rfl, hW⟩
  have HBAD : Hid (∀ W ev (i : Nat) B, Below w.heap.size w W → CheckF vars xss 0 false 0 → blksBad vars 0 [] bs = some i → AtB A B W ev i 3 → ChkPost A w vars bs xss (.returned ev) W) := fun W ev i B hW h0 h1 hat => by
    obtain ⟨b, _, rfl, g0, g1⟩ := hat
    exact ⟨_, 104, true, i, rfl, .inr ⟨h0, .inr ⟨i, h1, rfl, rfl, rfl⟩⟩, errR_at 3 (by omega) b _ g0 g1, fun h => by omega, hW⟩
  have HERR : Hid (∀ W ev c p k, Below w.heap.size w W → CheckF vars xss c p k → c ≠ 0 → ErrR A W ev c p k → ChkPost A w vars bs xss (.returned ev) W) := fun W ev c p k hW h0 h1 h2 => ⟨_, c, p, k, rfl, .inl ⟨h1, h0⟩, h2, fun h => absurd h h1, hW⟩
  have HBB := Lib.hid (fun i met (h : i < bs.length) => bb_in vars bs i met h)
  have HBE := Lib.hid (fun met => bb_end vars bs bs.length met (Nat.le_refl _))
  have HTOT : Hid ((∀ c p k, CheckF vars xss c p k → c = 0) → CheckF vars xss 0 false 0) := fun h => by
    rcases checkF_some vars xss with ⟨c, p, k, h1, h2⟩ | h1
    · exact absurd (h c p k h1) h2
    · exact h1
  generalize hP : ChkPost A w vars bs xss = P at *
  clear hP
  generalize hN : bs.length = n at *
  have HN := Lib.hid hN; clear hN
  generalize xss.length = m at *
  generalize A 3 = a3 at *
  by_cases hne : ∃ c p k, CheckF vars xss c p k ∧ c ≠ 0
  · have HNE := Lib.hid hne; clear hne
    go_enter Tryd.func25, Tryd.ntmps25
    go_wp2_with (go_at_call 45; refine (HCK.out _ (HBX.out _)).mono ?_; rintro e w1 ⟨ev, c, p, k, rfl, hcf, he, hz, hi, hb1⟩; have hc0 : c ≠ 0 := (by obtain ⟨c', p', k', h1, h2⟩ := HNE.out; rw [(checkF_same h1 hcf).1]; exact h2); obtain ⟨t, u, rfl⟩ := hi hc0; have hbw1 := (HBX.out _).trans (hb1.mono (by simp)))
    (try go_ret)
    exact HERR.out _ _ _ _ _ hbw1 hcf hc0 he
  · have HZ : Hid (∀ c p k, CheckF vars xss c p k → c = 0) := fun c p k h => by
      by_cases h0 : c = 0
      · exact h0
      · exact absurd ⟨c, p, k, h, h0⟩ hne
    clear hne
    obtain hcf0 := HTOT.out HZ.out
    · obtain ⟨hv3, hv4⟩ := HVB.out hcf0
      obtain ⟨vn, rfl⟩ : ∃ vn : Nat, vars = vn := ⟨vars.toNat, by omega⟩
      have HCF := Lib.hid hcf0; clear hcf0
      go_enter Tryd.func25, Tryd.ntmps25
      go_wp2_with (first
        | (go_at_call 45; refine (HCK.out _ (HBX.out _)).mono ?_; rintro e w1 ⟨ev, c, p, k, rfl, hcf, he, hz, hi, hb1⟩; obtain rfl : ev = .nilIface := hz (HZ.out _ _ _ hcf); have hbw1 := (HBX.out _).trans (hb1.mono (by simp)); obtain ⟨g0, g1, g2⟩ := cells3 w w1 _ _ _ _ hb1)
        | (at_make; refine wpList_makeG Value.bool false _ _ 1 Tryd.underlying85 infoBl rfl (by decide) rfl _ _ rfl _ (vn + 1) rfl rfl (by omega) ?_; intro w2 hc2 hb2 hlt2; have g0' := (hb2.cell (p := ⟨w.heap.size, 0, none⟩) (World.block_lt_of_cell? w1 _ g0)).trans g0))
      have hbw2 := hbw1.trans (hb2.mono hbw1.size)
      have hqw : w.heap.size ≤ w1.heap.size := hbw1.size
      generalize w1.heap.size = q0 at *
      clear g0 g1 g2 g0' he hz hi hcf hb1 hbw1 hb2
      go_loopw [5, 6, 8, 23] (fun _ _ _ i wr => ∃ (k : Nat) (met : List Int) (bits : List Bool), k ≤ n ∧ i = .int .i64 k ∧ CelG Value.bool false wr q0 bits ∧ MkL (vn + 1) met bits ∧ Below w.heap.size w wr ∧ Hid (blksBad (vn : Int) k met (bs.drop k) = blksBad (vn : Int) 0 [] bs)) (fun _ _ _ i _ => n - (intOf i).toNat)
      case atStart => exact ⟨0, [], _, Nat.zero_le _, rfl, hc2, MkL.start _, hbw2, rfl⟩
      case round =>
        obtain ⟨k, met, bits, hk, rfl, hcl, hml, hbr, HQ⟩ := hrel
        clear hc2 hlt2 hbw2
        have hqs := hcl.sq
        by_cases hlt : k < n
        · obtain ⟨b, off, ha, hbl, hc⟩ := HQ3.out.resolve_left (by omega)
          subst ha
          obtain ⟨f0, v, f1, hvr⟩ := hc k hlt
          clear hc
          have f0' := (hbr.cell (p := ⟨b, off + k * 2, none⟩) hbl).trans f0
          have f1' := (hbr.cell (p := ⟨b, off + k * 2 + 1, none⟩) hbl).trans f1
          have HQ2 := Lib.hid ((HBB.out k met hlt).symm.trans HQ.out)
          clear f0 f1 HQ
          obtain ⟨av, cv, rfl, hv5, hv6, hrv⟩ := hvr
          unfold maxLen at hv6
          generalize (bs.getD k blk0).1 = ex at *
          generalize (bs.getD k blk0).2 = ys at *
          have HRV := Lib.hid hrv; clear hrv
          generalize hml2 : ys.length = ml at *
          have HML := Lib.hid hml2; clear hml2
          have hbx : Below wr.heap.size wr (wr.alloc (.cells #[.bool ex, .slice av ml cv] 58)) := (Below.refl _ _).alloc (Nat.le_refl _) _
          have HX := Lib.hid (And.intro (hcl.keep hbx) (hbr.trans (hbx.mono hbr.size))); clear hbx hcl hbr
          go_wp2_with fail
          obtain ⟨hcx, hbx⟩ := HX.out
          go_loopw [8, 31] (fun _ i wr2 => ∃ (j : Nat) (met2 : List Int) (bits2 : List Bool), j ≤ ml ∧ i = .int .i64 j ∧ CelG Value.bool false wr2 q0 bits2 ∧ MkL (vn + 1) met2 bits2 ∧ Below w.heap.size w wr2 ∧ Hid (blksIn (vn : Int) k met2 (ys.drop j) (bs.drop (k + 1)) = blksBad (vn : Int) 0 [] bs)) (fun _ i _ => ml - (intOf i).toNat)
          case atStart => exact ⟨0, met, bits, Nat.zero_le _, rfl, hcx, hml, hbx, HQ2.out⟩
          case round =>
            obtain ⟨j, met2, bits2, hj, rfl, hcl2, hml2, hbr2, HQ4⟩ := hrel
            clear hcx hbx
            by_cases hjl : j < ml
            · obtain ⟨b2, off2, ha2, hb2', hc2'⟩ := HRV.out.resolve_left (by have := HML.out; omega)
              subst ha2
              have hjy : j < ys.length := by rw [HML.out]; exact hjl
              have f2 := (hbr2.cell (p := ⟨b2, off2 + j, none⟩) hb2').trans (hc2' j (by first | exact hjl | exact hjy))
              have HOKN := Lib.hid (fun h => bn_ok (vn : Int) k j met2 ys (bs.drop (k + 1)) hjy h)
              have HBDN := Lib.hid (fun h => bn_bad (vn : Int) k j met2 ys (bs.drop (k + 1)) hjy h)
              have HADD := Lib.hid (fun W (h : CelG Value.bool false W q0 bits2) => add_any q0 (vn + 1) met2 bits2 (ys.getD j 0) W h hml2)
              unfold AddPost at HADD
              rw [show (((vn + 1 : Nat) : Int) - 1) = (vn : Int) by omega] at HADD
              clear hc2' hjy
              generalize ys.getD j 0 = l at *
              cases hok : okV (vn : Int) met2 l with
              | true =>
                have HQ5 := Lib.hid ((HOKN.out hok).symm.trans HQ4.out)
                rw [hok] at HADD
                clear HOKN HBDN HQ4 hok
                go_wp2_with (go_at_call 46; refine (HADD.out _ hcl2).mono ?_; rintro e3 w3 ⟨rfl, ⟨bits3, hc3, hm3⟩, ho3⟩)
                go_roundw
                case rel => exact ⟨j + 1, met2 ++ [l], bits3, by omega, by go_num, hc3, hm3, ho3.below hbr2 hbr2.size hqw, HQ5.out⟩
                case measure => simp [intOf]; omega
              | false =>
                have HE := Lib.hid (HQ4.out.symm.trans (HBDN.out hok))
                rw [hok] at HADD
                clear HOKN HBDN HQ4 hok
                go_wp2_with (first
                  | (go_at_call 46; refine (HADD.out _ hcl2).mono ?_; rintro e3 w3 ⟨rfl, ⟨bits3, hc3, hm3⟩, ho3⟩; have hbw3 := ho3.below hbr2 hbr2.size hqw; have gg := HC3.out _ hbw3)
                  | (go_at_call 47; refine (HT.out _ _).mono ?_; rintro e4 w4 ⟨⟨ev4, rfl, hat⟩, hb4⟩))
                (try go_ret)
                exact HBAD.out _ _ k _ (hbw3.trans (hb4.mono hbw3.size)) HCF.out HE.out hat
            · have hjm : j = ml := by omega
              have HQ5 := Lib.hid ((bn_end (vn : Int) k j met2 ys (bs.drop (k + 1)) (by rw [HML.out]; omega)).symm.trans HQ4.out)
              subst hjm
              clear HQ4
              go_wp2_with fail
              go_roundw
              case rel => exact ⟨k + 1, met2, bits2, by omega, by go_num, hcl2, hml2, hbr2, HQ5.out⟩
              case measure => simp [intOf]; omega
        · have hkn : k = n := by omega
          subst hkn
          have HE := Lib.hid (HQ.out.symm.trans (HBE.out met))
          clear HQ
          go_wp2_with fail
          (try go_ret)
          exact HNIL.out _ hbr HCF.out HE.out
end Go.Proofs.YtcodmijphejfdaaDoor
