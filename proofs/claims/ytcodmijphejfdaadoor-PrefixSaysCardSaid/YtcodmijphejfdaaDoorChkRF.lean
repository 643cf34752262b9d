/- The contract of the document's own skolemref1.CheckFormula: which fault it tells. Conditions: the formula reads as lists of 64-bit ints, few and short ones. -/
import Derived.Test.YtcodmijphejfdaaDoorChkF
import Derived.Test.YtcodmijphejfdaaDoorRefCheck5
import Derived.Test.YtcodmijphejfdaaDoorRead
import Derived.Laws.ResultCell
namespace Go.Proofs.YtcodmijphejfdaaDoor
open Go.RowKit

def ChkRPost (w : World) (vars : Int) (bs : List Blk) (xss : List (List Int)) (e : Ending) (w' : World) : Prop :=
  ∃ c p k, e = .returned (faultV c p k) ∧ CheckFF vars bs xss c p k ∧ Below w.heap.size w w'
theorem getD_memB2 {bs : List Blk} {k : Nat} (h : k < bs.length) : bs.getD k blk0 ∈ bs := by simp [List.getD, h]
theorem okV_has2 (vars : Int) (met : List Int) (v : Int) : okV vars met v = (decide (1 ≤ v) && (decide (v ≤ vars) && !decide (v ∈ met))) := by
  unfold okV
  have h2 : met.contains v = decide (v ∈ met) := by simp
  rw [h2]

set_option maxHeartbeats 4000000 in
theorem refCheckF_any (vars : Int) (q : Option Addr) (d : Nat) (bs : List Blk) (a : Option Addr) (cap : Nat) (xss : List (List Int)) (w : World) (hv1 : -9223372036854775808 ≤ vars) (hv2 : vars ≤ 9223372036854775807) (hq : BRowsAt w q d bs) (hr : RowsAt w a cap xss)
    (hint : ∀ xs ∈ xss, ∀ l ∈ xs, -9223372036854775807 ≤ l ∧ l ≤ 9223372036854775807) (hn : xss.length ≤ 60) (hlen : ∀ xs ∈ xss, xs.length ≤ 1000000) (hnb : bs.length ≤ 8) (hnv : ∀ b ∈ bs, b.2.length ≤ 30) :
    Calls Tryd.prog 28 #[.agg #[.slice q bs.length d, .int .i64 vars, .slice a xss.length cap]] w (ChkRPost w vars bs xss) := by
  have HCK := Lib.hid (fun W (hW : Below w.heap.size w W) => refCheck_any vars a cap xss W hv1 hv2 (hr.keep hW) hint hn hlen)
  have HPL := Lib.hid (fun k W => placed_any 104 k W (by omega))
  have HNO := Lib.hid none_any
  obtain ⟨hq1, hq2, hq3⟩ := hq
  unfold maxLen at hq2
  have HQ3 := Lib.hid hq3; clear hq3
  clear hr hint hlen
  unfold RefCheckPost at HCK
  have HTOT : Hid ((∀ c p k, CheckF vars xss c p k → c = 0) → CheckF vars xss 0 false 0) := fun h => by
    rcases checkF_some vars xss with ⟨c, p, k, h1, h2⟩ | h1
    · exact absurd (h c p k h1) h2
    · exact h1
  have HNIL : Hid (∀ W, Below w.heap.size w W → CheckF vars xss 0 false 0 → blksBad vars 0 [] bs = none → ChkRPost w vars bs xss (.returned (.agg #[.int .i64 0, .bool false, .int .i64 0])) W) := fun W hW h0 h1 => ⟨0, false, 0, rfl, .inr ⟨h0, .inl ⟨h1, rfl, rfl, rfl⟩⟩, hW⟩
  have HBAD : Hid (∀ W (i : Nat), Below w.heap.size w W → CheckF vars xss 0 false 0 → blksBad vars 0 [] bs = some i → ChkRPost w vars bs xss (.returned (.agg #[.int .i64 104, .bool true, .int .i64 i])) W) := fun W i hW h0 h1 => ⟨104, true, i, rfl, .inr ⟨h0, .inr ⟨i, h1, rfl, rfl, rfl⟩⟩, hW⟩
  have HERR : Hid (∀ W c p k, Below w.heap.size w W → CheckF vars xss c p k → c ≠ 0 → ChkRPost w vars bs xss (.returned (.agg #[.int .i64 c, .bool p, .int .i64 k])) W) := fun W c p k hW h0 h1 => ⟨c, p, k, rfl, .inl ⟨h1, h0⟩, hW⟩
  have HBB := Lib.hid (fun i met (h : i < bs.length) => bb_in vars bs i met h)
  have HBE := Lib.hid (fun met => bb_end vars bs bs.length met (Nat.le_refl _))
  have HVL := Lib.hid (fun k (h : k < bs.length) => hnv _ (getD_memB2 (bs := bs) h))
  clear hnv
  generalize hP : ChkRPost w vars bs xss = P at *
  clear hP
  generalize hN : bs.length = nb at *
  have HN := Lib.hid hN; clear hN
  generalize xss.length = m at *
  unfold faultV at *
  have hw0b : Below w.heap.size w ((w.alloc (.cells #[.slice q nb d, .int .i64 vars, .slice a m cap] 27)).alloc (.cells #[.int .i64 0, .bool false, .int .i64 0] 38)) := ((Below.refl _ w).alloc (Nat.le_refl _) _).alloc (by simp) _
  have HW0 := Lib.hid hw0b; clear hw0b
  have HBOX : Hid (∀ W, Below ((w.alloc (.cells #[.slice q nb d, .int .i64 vars, .slice a m cap] 27)).alloc (.cells #[.int .i64 0, .bool false, .int .i64 0] 38)).heap.size ((w.alloc (.cells #[.slice q nb d, .int .i64 vars, .slice a m cap] 27)).alloc (.cells #[.int .i64 0, .bool false, .int .i64 0] 38)) W → (W.cell? ⟨w.heap.size, 0, none⟩ = some (.slice q nb d) ∧ W.cell? ⟨w.heap.size, 1, none⟩ = some (.int .i64 vars)) ∧ (W.cell? ⟨w.heap.size + 1, 0, none⟩ = some (.int .i64 0) ∧ W.cell? ⟨w.heap.size + 1, 1, none⟩ = some (.bool false) ∧ W.cell? ⟨w.heap.size + 1, 2, none⟩ = some (.int .i64 0)) ∧ ∀ k, W.frozen? ⟨w.heap.size + 1, k, none⟩ = false) := fun W h => by
    have h1 := cells3 w W _ _ _ _ (((Below.refl _ _).alloc (Nat.le_refl _) _).trans (h.mono (by simp)))
    have h2 := cells3 (w.alloc (.cells #[.slice q nb d, .int .i64 vars, .slice a m cap] 27)) W _ _ _ _ h
    rw [show (w.alloc (.cells #[.slice q nb d, .int .i64 vars, .slice a m cap] 27)).heap.size = w.heap.size + 1 by simp] at h2
    refine ⟨⟨h1.1, h1.2.1⟩, h2, fun k => ?_⟩
    obtain ⟨_, hf⟩ := bcell h
    rw [hf _ _ (by simp)]
    exact World.frozen?_alloc_at _ _ _ _ (by simp)
  by_cases hne : ∃ c p k, CheckF vars xss c p k ∧ c ≠ 0
  · have HNE := Lib.hid hne; clear hne
    go_enter Tryd.func28, Tryd.ntmps28
    go_wp2_with (go_at_call 49; refine (HCK.out _ HW0.out).mono ?_; rintro e w1 ⟨c, p, k, rfl, hcf, hb1⟩; have hc0 : c ≠ 0 := (by obtain ⟨c', p', k', h1, h2⟩ := HNE.out; rw [(checkF_same h1 hcf).1]; exact h2); have hcb : (c != 0) = true := (by simp [hc0]); obtain ⟨⟨g0, g1⟩, ⟨r1, r2, r3⟩, rf⟩ := HBOX.out _ (hb1.alloc hb1.size (.cells #[.int .i64 c, .bool p, .int .i64 k] 38)); have hbw1 := HW0.out.trans (hb1.mono HW0.out.size); have hs1 := hb1.size; simp at hs1)
    exact bodyPost_ret (v := .agg #[.int .i64 c, .bool p, .int .i64 k]) (by simp [results, Tryd.results28, go_sem, r1, r2, r3]) rfl (HERR.out _ _ _ _ ((((hbw1.alloc hbw1.size _).setCell (by simp) _).setCell (by simp) _).setCell (by simp) _) hcf hc0)
  · have HZ : Hid (∀ c p k, CheckF vars xss c p k → c = 0) := fun c p k h => by
      by_cases h0 : c = 0
      · exact h0
      · exact absurd ⟨c, p, k, h, h0⟩ hne
    clear hne
    have HCF := Lib.hid (HTOT.out HZ.out)
    go_enter Tryd.func28, Tryd.ntmps28
    go_wp2_with (go_at_call 49; refine (HCK.out _ HW0.out).mono ?_; rintro e w1 ⟨c, p, k, rfl, hcf, hb1⟩; obtain ⟨rfl, rfl, rfl⟩ := checkF_same HCF.out hcf; have hb1a := hb1.alloc hb1.size (.cells #[.int .i64 0, .bool false, .int .i64 0] 38))
    have HBA := Lib.hid hb1a
    generalize w1.alloc (.cells #[.int .i64 0, .bool false, .int .i64 0] 38) = W3 at *
    clear hb1a hb1 hcf
    go_loopw [4, 5, 6, 7] (fun sv i _ _ wr => ∃ (k : Nat) (met : List Int), k ≤ nb ∧ i = .int .i64 k ∧ wr.ownsRow W3.heap.size 3 1 sv met.length (met.map (Value.int .i64)) ∧ Below W3.heap.size W3 wr ∧ met.length ≤ 30 * k ∧ Hid (blksBad vars k met (bs.drop k) = blksBad vars 0 [] bs)) (fun _ i _ _ _ => nb - (intOf i).toNat)
    case atStart => exact ⟨0, [], Nat.zero_le _, rfl, World.ownsRow_nil _ _ _ _, Below.refl _ _, by simp, rfl⟩
    case round =>
      obtain ⟨k, met, hk, rfl, hown, hbr, hml, HQ⟩ := hrel
      have hbr0 := HBA.out.trans (hbr.mono HBA.out.size)
      obtain ⟨⟨g0, g1⟩, ⟨r1, r2, r3⟩, rf⟩ := HBOX.out _ hbr0
      have hbw := HW0.out.trans (hbr0.mono HW0.out.size)
      obtain ⟨a9, cs, rfl, _, hcs⟩ := own_shape hown
      unfold maxLen at hcs
      by_cases hlt : k < nb
      · obtain ⟨b, off, ha, hbl, hc⟩ := HQ3.out.resolve_left (by omega)
        subst ha
        obtain ⟨f0, v, f1, hvr⟩ := hc k hlt
        clear hc f0
        have HQ2 := Lib.hid ((HBB.out k met hlt).symm.trans HQ.out)
        have hvl := HVL.out k hlt
        clear HQ
        obtain ⟨av, cv, rfl, hv5, hv6, hrv⟩ := hvr
        unfold maxLen at hv6
        generalize (bs.getD k blk0).2 = ys at *
        have HRV := Lib.hid hrv; clear hrv
        generalize hml2 : ys.length = ml at *
        have HML := Lib.hid hml2; clear hml2
        have HF1 := Lib.hid (fun W (h : Below w.heap.size w W) => (h.cell (p := ⟨b, off + k * 2 + 1, none⟩) hbl).trans f1)
        have f1' := HF1.out _ hbw
        clear f1
        go_wp2_with fail
        go_loopw [4, 6, 7] (fun sv j _ wr2 => ∃ (t : Nat) (met2 : List Int), t ≤ ml ∧ j = .int .i64 t ∧ wr2.ownsRow W3.heap.size 3 1 sv met2.length (met2.map (Value.int .i64)) ∧ Below W3.heap.size W3 wr2 ∧ met2.length ≤ 30 * k + t ∧ Hid (blksIn vars k met2 (ys.drop t) (bs.drop (k + 1)) = blksBad vars 0 [] bs)) (fun _ j _ _ => ml - (intOf j).toNat)
        case atStart => exact ⟨0, met, Nat.zero_le _, rfl, hown, hbr, by omega, HQ2.out⟩
        case round =>
          clear hown hbr hbr0 g0 g1 r1 r2 r3 rf hbw f1'
          obtain ⟨t, met2, ht, rfl, hown2, hbr2, hml2, HQ4⟩ := hrel
          have hbr20 := HBA.out.trans (hbr2.mono HBA.out.size)
          obtain ⟨⟨g0, g1⟩, ⟨r1, r2, r3⟩, rf⟩ := HBOX.out _ hbr20
          have hbw2 := HW0.out.trans (hbr20.mono HW0.out.size)
          by_cases htl : t < ml
          · obtain ⟨b2, off2, ha2, hb2', hc2'⟩ := HRV.out.resolve_left (by omega)
            subst ha2
            have htys : t < ys.length := by rw [HML.out]; exact htl
            have f2 := (hbw2.cell (p := ⟨b2, off2 + t, none⟩) hb2').trans (hc2' t (by first | exact htl | exact htys))
            have f1' := HF1.out _ hbw2
            have HOKN := Lib.hid (fun h => bn_ok vars k t met2 ys (bs.drop (k + 1)) htys h)
            have HBDN := Lib.hid (fun h => bn_bad vars k t met2 ys (bs.drop (k + 1)) htys h)
            obtain ⟨a10, cs2, rfl, _, hcs2⟩ := own_shape hown2
            unfold maxLen at hcs2
            clear hc2' htys
            generalize ys.getD t 0 = l at *
            have HHAS := Lib.hid (fun W h => has_any (.slice a10 met2.length cs2) met2 l W h)
            by_cases hl1 : l < 1
            · have hl1b : decide (l < 1) = true := by simpa using hl1
              have HE := Lib.hid (HQ4.out.symm.trans (HBDN.out (by rw [okV_has2]; simp; omega)))
              clear HOKN HBDN HQ4 hl1
              go_wp2_with (go_at_call 50; refine (HPL.out _ _).mono ?_; rintro e9 w9 ⟨rfl, hb9⟩; have hr9 := hbr20.trans (hb9.mono hbr20.size); obtain ⟨_, ⟨r1, r2, r3⟩, rf⟩ := HBOX.out _ hr9)
              have hbw9 := HW0.out.trans (hr9.mono HW0.out.size)
              (try simp only [Exit.inBlock, Exit.then])
              exact bodyPost_ret (v := .agg #[.int .i64 104, .bool true, .int .i64 k]) (by simp [results, Tryd.results28, go_sem, r1, r2, r3]) rfl (HBAD.out _ k (((hbw9.setCell (by simp) _).setCell (by simp) _).setCell (by simp) _) HCF.out HE.out)
            have hl1b : decide (l < 1) = false := by simpa using hl1
            by_cases hlv : vars < l
            · have hlvb : decide (vars < l) = true := by simpa using hlv
              have HE := Lib.hid (HQ4.out.symm.trans (HBDN.out (by rw [okV_has2]; simp; omega)))
              clear HOKN HBDN HQ4 hl1 hlv
              go_wp2_with (go_at_call 50; refine (HPL.out _ _).mono ?_; rintro e9 w9 ⟨rfl, hb9⟩; have hr9 := hbr20.trans (hb9.mono hbr20.size); obtain ⟨_, ⟨r1, r2, r3⟩, rf⟩ := HBOX.out _ hr9)
              have hbw9 := HW0.out.trans (hr9.mono HW0.out.size)
              (try simp only [Exit.inBlock, Exit.then])
              exact bodyPost_ret (v := .agg #[.int .i64 104, .bool true, .int .i64 k]) (by simp [results, Tryd.results28, go_sem, r1, r2, r3]) rfl (HBAD.out _ k (((hbw9.setCell (by simp) _).setCell (by simp) _).setCell (by simp) _) HCF.out HE.out)
            have hlvb : decide (vars < l) = false := by simpa using hlv
            by_cases hin : l ∈ met2
            · rw [show decide (l ∈ met2) = true by simpa using hin] at HHAS
              have HE := Lib.hid (HQ4.out.symm.trans (HBDN.out (by rw [okV_has2]; simp [hin])))
              clear HOKN HBDN HQ4 hl1 hlv hin
              go_wp2_with (first
                | (go_at_call 37; refine (HHAS.out _ (own_row hown2)).mono ?_; rintro e4 w' ⟨rfl, rfl⟩)
                | (go_at_call 50; refine (HPL.out _ _).mono ?_; rintro e9 w9 ⟨rfl, hb9⟩; have hr9 := hbr20.trans (hb9.mono hbr20.size); obtain ⟨_, ⟨r1, r2, r3⟩, rf⟩ := HBOX.out _ hr9))
              have hbw9 := HW0.out.trans (hr9.mono HW0.out.size)
              (try simp only [Exit.inBlock, Exit.then])
              exact bodyPost_ret (v := .agg #[.int .i64 104, .bool true, .int .i64 k]) (by simp [results, Tryd.results28, go_sem, r1, r2, r3]) rfl (HBAD.out _ k (((hbw9.setCell (by simp) _).setCell (by simp) _).setCell (by simp) _) HCF.out HE.out)
            · rw [show decide (l ∈ met2) = false by simpa using hin] at HHAS
              have HQ5 := Lib.hid ((HOKN.out (by rw [okV_has2]; simp [hin]; omega)).symm.trans HQ4.out)
              clear HOKN HBDN HQ4 hl1 hlv hin
              go_wp2_with (first
                | (go_at_call 37; refine (HHAS.out _ (own_row hown2)).mono ?_; rintro e4 w' ⟨rfl, rfl⟩)
                | (at_builtin; refine wpList_app1 rfl _ _ rfl wr W3.heap.size _ _ _ _ hown2 hbr2.size (by omega) rfl rfl ?_; intro v5 w5 hown5 hap5))
              go_roundw
              case rel => exact ⟨t + 1, met2 ++ [l], by omega, by go_num, by rw [List.length_append]; exact hown5, hbr2.trans hap5.below, by rw [List.length_append, List.length_singleton]; omega, HQ5.out⟩
              case measure => go_light; simp [intOf]; omega
          · have htm : t = ml := by omega
            have HQ5 := Lib.hid ((bn_end vars k t met2 ys (bs.drop (k + 1)) (by rw [HML.out]; omega)).symm.trans HQ4.out)
            have f1' := HF1.out _ hbw2
            subst htm
            clear HQ4
            obtain ⟨a10, cs2, rfl, _, hcs2⟩ := own_shape hown2
            go_wp2_with fail
            go_roundw
            case rel => exact ⟨k + 1, met2, by omega, by go_num, hown2, hbr2, by omega, HQ5.out⟩
            case measure => simp [intOf]; omega
      · have hkn : k = nb := by omega
        subst hkn
        have HE := Lib.hid (HQ.out.symm.trans (HBE.out met))
        clear HQ
        go_wp2_with (go_at_call 51; refine (HNO.out _).mono ?_; rintro e9 w9 ⟨rfl, hb9⟩; have hr9 := hbr0.trans (hb9.mono hbr0.size); obtain ⟨_, ⟨r1, r2, r3⟩, rf⟩ := HBOX.out _ hr9)
        have hbw9 := HW0.out.trans (hr9.mono HW0.out.size)
        (try simp only [Exit.inBlock, Exit.then])
        exact bodyPost_ret (v := .agg #[.int .i64 0, .bool false, .int .i64 0]) (by simp [results, Tryd.results28, go_sem, r1, r2, r3]) rfl (HNIL.out _ (((hbw9.setCell (by simp) _).setCell (by simp) _).setCell (by simp) _) HCF.out HE.out)
end Go.Proofs.YtcodmijphejfdaaDoor
