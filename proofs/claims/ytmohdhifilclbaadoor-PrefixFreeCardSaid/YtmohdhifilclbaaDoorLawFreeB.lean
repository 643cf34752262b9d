/- The law PrefixFree: true for whatever arguments. Conditions: the slice reads as 64-bit ints; the three errors lie as 'Sents3' says. -/
import Derived.Test.YtmohdhifilclbaaDoorFreeQ
import Derived.Test.YtmohdhifilclbaaDoorRead
import Derived.Test.YtmohdhifilclbaaDoorOpenRows
import Derived.Deep.RegionHeld3
namespace Go.Proofs.YtmohdhifilclbaaDoor
open Go.RowKit

set_option maxHeartbeats 8000000 in
set_option maxRecDepth 100000 in
theorem lawFree_inB (A : Nat → Addr) (a : Option Addr) (c : Nat) (cs : List Int) (fi : Int) (ex : Bool) (fr : Int) (w : World) (hS : Sents3 w A) (hv : RowAt w a c cs) (hcs : ∀ y ∈ cs, -9223372036854775808 ≤ y ∧ y ≤ 9223372036854775807) (hn : cs.length ≤ 60)
    (f1 : -9223372036854775808 ≤ fi) (f2 : fi ≤ 9223372036854775807) (f3 : -9223372036854775808 ≤ fr) (f4 : fr ≤ 9223372036854775807) (h1 : fi < 0) (h2 : 0 ≤ fr) :
    Calls Tryd.prog 6 #[.slice a cs.length c, .int .i64 fi, .bool ex, .int .i64 fr] w fun e w' => e = .returned (.bool true) ∧ Below w.heap.size w w' := by
  have HF := Lib.hid (first6_any A w hS)
  have HMF := Lib.hid (fun W (hW : Below w.heap.size w W) gi gr (h1 : 0 ≤ gi) (h2 : 0 ≤ gr) => makeFormI a c cs gi ex gr W h1 h2 (hv.keep hW) hcs (by omega))
  have HNM := Lib.hid (fun W q d la lb ac cc xss (hW : Below w.heap.size w W) (h : FmI W q d ex la lb ac cc xss) => fmI_norm (hS.keep hW) h)
  have hd : decide ((60 : Int) < (cs.length : Int)) = false := decide_eq_false (by omega)
  have hd' : decide (60 < cs.length) = false := decide_eq_false (by omega)
  have HN := Lib.hid hn
  clear hS hv hcs hn
  generalize cs.length = n at *
  obtain ⟨Q, hQ⟩ : ∃ Q : Prop, Q = (∀ (x : Int), (x < 0 → (0 ≤ -(x + 1).tmod 10 ∧ 0 ≤ -(x + 1).tmod 4)) ∧ (0 ≤ x → 0 ≤ x % 10 ∧ 0 ≤ x % 4)) := ⟨_, rfl⟩
  have hQt : Q := by
    rw [hQ]
    intro x
    refine ⟨fun h => ?_, fun h => by omega⟩
    have e1 := Int.neg_tmod (x + 1) 10
    have e2 := Int.neg_tmod (x + 1) 4
    have u1 : 0 ≤ (-(x + 1)).tmod 10 := Int.tmod_nonneg _ (by omega)
    have u2 : 0 ≤ (-(x + 1)).tmod 4 := Int.tmod_nonneg _ (by omega)
    omega
  rw [hQ] at hQt
  have HQ := Lib.hid hQt
  clear hQt hQ
  have hd1 : decide (fi < 0) = true := decide_eq_true h1
  have hd2 : decide (fr < 0) = false := decide_eq_false (by omega)
  have HFO := Lib.hid (fun W hW => HMF.out W hW (-(fi + 1).tmod 10) (fr % 4) (((HQ.out fi).1 h1).1) (((HQ.out fr).2 h2).2))
  clear HMF HQ
  go_enter Tryd.func6, Tryd.ntmps6
  go_wp2_with (first
    | (go_at_call 8; refine HF.out.mono ?_; rintro e w1 ⟨rfl, hb1⟩)
    | (go_at_call 26; refine (HFO.out _ hb1).mono ?_; rintro e w2 ⟨⟨q, d, la, lb, ac, cc, xss, rfl, g1, g2, g3, g4, g5, g6, g7⟩, hb2⟩; have hb12 := hb1.trans (hb2.mono hb1.size); have HFI := Lib.hid (show FmI w2 q d ex la lb ac cc xss from ⟨g1, g2, g3, g4, g5, by have := HN.out; omega, by have := HN.out; omega⟩); clear g1 g2 g3 g4 g5 g6 g7; have hx3 : Below w2.heap.size w2 (w2.alloc (.cells #[.slice q 2 d, .int .i64 9, .slice ac xss.length cc] 27)) := (Below.refl _ _).alloc (Nat.le_refl _) _; have HX3 := Lib.hid hx3; clear hx3)
    | (go_at_call 15; refine (fmI_free (HFI.out.keep HX3.out)).mono ?_; rintro e w4 ⟨⟨xv, rfl, hxv⟩, hb4⟩; obtain ⟨f0, f1, f2⟩ := cells3 w2 w4 _ _ _ _ hb4; have hb24 := HX3.out.trans (hb4.mono (by simp)); have hb14 := hb12.trans (hb24.mono hb12.size); have HF4 := Lib.hid (HFI.out.keep hb24); obtain ⟨ax, cx, rfl, hxr⟩ := hxv)
    | (go_at_call 10; refine (HNM.out _ _ _ _ _ _ _ _ hb14 HF4.out).mono ?_; rintro e w5 ⟨E, ao, lo, co, ai, li, ci, am, cm, rfl, hE, hout, hb5⟩; have HE := Lib.hid hE; clear hE))
  have hb15 := hb14.trans (hb5.mono hb14.size)
  have HX6 : Hid (Below w5.heap.size w5 (w5.alloc (.cells #[.bool E, .slice ao lo co, .slice ai li ci, .slice am xss.length cm] 32))) := (Below.refl _ _).alloc (Nat.le_refl _) _
  obtain ⟨⟨m0, m1, m2, m3⟩, _⟩ := cells4 w5 _ _ _ _ _ _ (Below.refl _ (w5.alloc (.cells #[.bool E, .slice ao lo co, .slice ai li ci, .slice am xss.length cm] 32)))
  have hf5 := hb5.cell (p := ⟨w2.heap.size, 0, none⟩) (World.block_lt_of_cell? _ _ f0)
  have f0' : (w5.alloc (.cells #[.bool E, .slice ao lo co, .slice ai li ci, .slice am xss.length cm] 32)).cell? ⟨w2.heap.size, 0, none⟩ = some (.slice q 2 d) := (HX6.out.cell (p := ⟨w2.heap.size, 0, none⟩) (Nat.lt_of_lt_of_le (World.block_lt_of_cell? _ _ f0) hb5.size)).trans (hf5.trans f0)
  have HX4 := Lib.hid (HF4.out.keep hb5)
  have hxr6 := (hxr.keep hb5).keep HX6.out
  have hf6 := HX4.out.keep HX6.out
  have hout6 := hout.keep HX6.out
  have HB6 := Lib.hid (hb15.trans (HX6.out.mono hb15.size))
  obtain ⟨hsrt, hmem⟩ := free_spec [(ex, la), (!ex, lb)] xss
  have hgm := (sp_game hf6.sp hf6.good).2
  have HXS : Hid (∀ i, i < (freeL [(ex, la), (!ex, lb)] xss).length → E = true ∧ decide ((freeL [(ex, la), (!ex, lb)] xss).getD i 0 ∈ outG (gameL [(ex, la), (!ex, lb)] xss)) = true ∧ ∀ k, k < 2 → decide ((freeL [(ex, la), (!ex, lb)] xss).getD i 0 ∈ ([(ex, la), (!ex, lb)].getD k blk0).2) = false) := fun i hi => by
    have hm := getD_memI _ i hi
    obtain ⟨e1, e2⟩ := hgm _ hm
    refine ⟨HE.out.trans e1, decide_eq_true e2, fun k hk => decide_eq_false fun hh => ((hmem _).1 hm).2 ?_⟩
    exact (mem_varsB _ _).2 ⟨k, by simpa using hk, hh⟩
  have HUP : Hid (∀ i, i + 1 < (freeL [(ex, la), (!ex, lb)] xss).length → decide ((freeL [(ex, la), (!ex, lb)] xss).getD (i + 1) 0 ≤ (freeL [(ex, la), (!ex, lb)] xss).getD i 0) = false) := fun i hi => by
    rw [decide_eq_false_iff_not]
    have := sorted_step _ hsrt i hi
    omega
  have HOUT := Lib.hid (fun W (hW : Below (w5.alloc (.cells #[.bool E, .slice ao lo co, .slice ai li ci, .slice am xss.length cm] 32)).heap.size (w5.alloc (.cells #[.bool E, .slice ao lo co, .slice ai li ci, .slice am xss.length cm] 32)) W) y => has_any (.slice ao lo co) _ y W (hout6.keep hW))
  have HROWS := Lib.hid hf6.rows
  clear hb15 hb5 hb4 hb2 hb1 hb12 hb14 hb24 hxr hout hf5 HE hsrt hmem hgm hf6 hout6 HFI HX3 HF4 HX4 HX6 f0 f1 f2 HF HNM HFO
  have HL2 : Hid ([(ex, la), (!ex, lb)].length = 2) := rfl
  generalize freeL [(ex, la), (!ex, lb)] xss = xs at *
  generalize outG (gameL [(ex, la), (!ex, lb)] xss) = og at *
  generalize [(ex, la), (!ex, lb)] = bs2 at *
  generalize w5.alloc (.cells #[.bool E, .slice ao lo co, .slice ai li ci, .slice am xss.length cm] 32) = W6 at *
  generalize hp2 : w2.heap.size = p2 at *
  generalize hp5 : w5.heap.size = p5 at *
  clear hp2 hp5
  have HM := Lib.hid (And.intro f0' (And.intro m0 m1))
  obtain ⟨hx1, hx2, hx3⟩ := hxr6
  unfold maxLen at hx2
  have HX := Lib.hid hx3
  clear f0' m0 m1 m2 m3 hx3
  generalize hnx : xs.length = nx at *
  have HNX := Lib.hid hnx; clear hnx
  go_loopw [14, 15] (fun i _ wr => ∃ k : Nat, k ≤ nx ∧ i = .int .i64 k ∧ Below W6.heap.size W6 wr) (fun i _ _ => nx - (intOf i).toNat)
  case atStart => exact ⟨0, Nat.zero_le _, rfl, Below.refl _ _⟩
  case round =>
    obtain ⟨k, hk, rfl, hbr⟩ := hrel
    by_cases hlt : k < nx
    · obtain ⟨xb, xo, ha, hxb, hxc⟩ := HX.out.resolve_left (by omega)
      subst ha
      obtain ⟨hE, hou, hnk⟩ := HXS.out k hlt
      subst hE
      have HNK := Lib.hid hnk; clear hnk
      have HXC : Hid (∀ W, Below W6.heap.size W6 W → ∀ i, i < nx → W.cell? ⟨xb, xo + i, none⟩ = some (.int .i64 (xs.getD i 0))) := fun W hW i hi => (hW.cell (p := ⟨xb, xo + i, none⟩) hxb).trans (hxc i hi)
      have HMC : Hid (∀ W, Below W6.heap.size W6 W → W.cell? ⟨p2, 0, none⟩ = some (.slice q 2 d) ∧ W.cell? ⟨p5, 0, none⟩ = some (.bool true) ∧ W.cell? ⟨p5, 1, none⟩ = some (.slice ao lo co)) := fun W hW => ⟨(hW.cell (p := ⟨p2, 0, none⟩) (World.block_lt_of_cell? _ _ HM.out.1)).trans HM.out.1, (hW.cell (p := ⟨p5, 0, none⟩) (World.block_lt_of_cell? _ _ HM.out.2.1)).trans HM.out.2.1, (hW.cell (p := ⟨p5, 1, none⟩) (World.block_lt_of_cell? _ _ HM.out.2.2)).trans HM.out.2.2⟩
      clear hxc
      have g0 := HXC.out _ hbr k hlt
      have HUPK : Hid (∀ k', k = k' + 1 → decide (xs.getD k 0 ≤ xs.getD k' 0) = false) := fun k' e => by subst e; exact HUP.out k' hlt
      cases k with
      | zero =>
        obtain ⟨y, hy⟩ : ∃ y, xs.getD 0 0 = y := ⟨_, rfl⟩
        have HYV := Lib.hid hy
        rw [hy] at g0
        clear hy
        go_wp2_with fail
        go_quiet (fail)
        go_wp2_with fail
        have HBR := Lib.hid hbr
        clear hbr
        go_loopw [15] (fun j wr2 => ∃ m : Nat, m ≤ 2 ∧ j = .int .i64 m ∧ Below W6.heap.size W6 wr2) (fun j _ => 2 - (intOf j).toNat)
        case atStart => exact ⟨0, by omega, rfl, by first | exact HBR.out | exact HBR.out.drew | exact below_drewN HBR.out _⟩
        case round =>
          obtain ⟨m, hm2, rfl, hb2⟩ := hrel
          clear g0
          have g0 := HXC.out _ hb2 0 hlt
          rw [HYV.out, Nat.add_zero] at g0
          obtain ⟨q0, q1, q2⟩ := HMC.out _ hb2
          by_cases hml : m < 2
          · obtain ⟨qb, qo, hqa, hqb, hqc⟩ := HROWS.out.2.2.resolve_left (by rw [HL2.out]; omega)
            subst hqa
            obtain ⟨_, v, v1, hvr⟩ := hqc m (by rw [HL2.out]; exact hml)
            have v1' := (hb2.cell (p := ⟨qb, qo + m * 2 + 1, none⟩) hqb).trans v1
            clear v1 hqc
            have hnh := HNK.out m hml
            rw [HYV.out] at hnh
            have HH := Lib.hid (fun W (hW : Below W6.heap.size W6 W) => has_any v _ y W (hvr.keep hW))
            rw [hnh] at HH
            obtain ⟨av, cv, rfl, _⟩ := hvr
            have hmi : (m : Int) < 2 := by omega
            have HB2 := Lib.hid hb2
            clear hnh
            go_wp2_with fail
            go_region_with (go_at_call 27; refine (HH.out _ (by first | exact HB2.out | exact HB2.out.drew | exact below_drewN HB2.out _)).mono ?_; rintro e w' ⟨rfl, rfl⟩)
            all_goals
              go_wp2_with fail
            all_goals exact ⟨⟨m + 1, by omega, by go_num, by first | exact HB2.out.drew | exact HB2.out | exact below_drewN HB2.out _⟩, by simp [intOf]; omega⟩
          · have hmm : m = 2 := by omega
            subst hmm
            have HO := Lib.hid (fun W hW => HOUT.out W hW y)
            have hou' := hou
            rw [HYV.out] at hou'
            rw [hou'] at HO
            have HB2 := Lib.hid hb2
            clear hou' hb2
            go_wp2_with fail
            go_region_with (go_at_call 27; refine (HO.out _ (by first | exact HB2.out | exact HB2.out.drew | exact below_drewN HB2.out _)).mono ?_; rintro e w' ⟨rfl, rfl⟩)
            all_goals
              go_wp2_with fail
            all_goals exact ⟨⟨0 + 1, by omega, by go_num, by first | exact HB2.out.drew | exact HB2.out | exact below_drewN HB2.out _⟩, by simp [intOf]; omega⟩
      | succ k' =>
        have g1 := HXC.out _ hbr k' (by omega)
        have hup := HUPK.out k' rfl
        have hp0 : decide ((0 : Int) < (k' : Int) + 1) = true := decide_eq_true (by omega)
        have hp1 : decide ((0 : Int) < ((k' + 1 : Nat) : Int)) = true := decide_eq_true (by omega)
        have hp2 : (k' : Int) < (nx : Int) := by omega
        have hp3 : (k' : Int) + 1 < (nx : Int) := by omega
        have hp4 : (0 : Int) ≤ (k' : Int) + 1 := by omega
        obtain ⟨y0, hy0⟩ : ∃ y0, xs.getD k' 0 = y0 := ⟨_, rfl⟩
        rw [hy0] at g1 hup
        clear hy0
        obtain ⟨y, hy⟩ : ∃ y, xs.getD (k' + 1) 0 = y := ⟨_, rfl⟩
        have HYV := Lib.hid hy
        rw [hy] at g0 hup
        clear hy
        go_wp2_with fail
        go_quiet (fail)
        go_wp2_with fail
        have HBR := Lib.hid hbr
        clear hbr
        go_loopw [15] (fun j wr2 => ∃ m : Nat, m ≤ 2 ∧ j = .int .i64 m ∧ Below W6.heap.size W6 wr2) (fun j _ => 2 - (intOf j).toNat)
        case atStart => exact ⟨0, by omega, rfl, by first | exact HBR.out | exact HBR.out.drew | exact below_drewN HBR.out _⟩
        case round =>
          obtain ⟨m, hm2, rfl, hb2⟩ := hrel
          clear g0
          have g0 := HXC.out _ hb2 (k' + 1) hlt
          rw [HYV.out] at g0
          obtain ⟨q0, q1, q2⟩ := HMC.out _ hb2
          by_cases hml : m < 2
          · obtain ⟨qb, qo, hqa, hqb, hqc⟩ := HROWS.out.2.2.resolve_left (by rw [HL2.out]; omega)
            subst hqa
            obtain ⟨_, v, v1, hvr⟩ := hqc m (by rw [HL2.out]; exact hml)
            have v1' := (hb2.cell (p := ⟨qb, qo + m * 2 + 1, none⟩) hqb).trans v1
            clear v1 hqc
            have hnh := HNK.out m hml
            rw [HYV.out] at hnh
            have HH := Lib.hid (fun W (hW : Below W6.heap.size W6 W) => has_any v _ y W (hvr.keep hW))
            rw [hnh] at HH
            obtain ⟨av, cv, rfl, _⟩ := hvr
            have hmi : (m : Int) < 2 := by omega
            have HB2 := Lib.hid hb2
            clear hnh
            go_wp2_with fail
            go_region_with (go_at_call 27; refine (HH.out _ (by first | exact HB2.out | exact HB2.out.drew | exact below_drewN HB2.out _)).mono ?_; rintro e w' ⟨rfl, rfl⟩)
            all_goals
              go_wp2_with fail
            all_goals exact ⟨⟨m + 1, by omega, by go_num, by first | exact HB2.out.drew | exact HB2.out | exact below_drewN HB2.out _⟩, by simp [intOf]; omega⟩
          · have hmm : m = 2 := by omega
            subst hmm
            have HO := Lib.hid (fun W hW => HOUT.out W hW y)
            have hou' := hou
            rw [HYV.out] at hou'
            rw [hou'] at HO
            have HB2 := Lib.hid hb2
            clear hou' hb2
            go_wp2_with fail
            go_region_with (go_at_call 27; refine (HO.out _ (by first | exact HB2.out | exact HB2.out.drew | exact below_drewN HB2.out _)).mono ?_; rintro e w' ⟨rfl, rfl⟩)
            all_goals
              go_wp2_with fail
            all_goals exact ⟨⟨k' + 1 + 1, by omega, by go_num, by first | exact HB2.out.drew | exact HB2.out | exact below_drewN HB2.out _⟩, by simp [intOf]; omega⟩
    · have hkn : k = nx := by omega
      subst hkn
      have HBR := Lib.hid (HB6.out.trans (hbr.mono HB6.out.size))
      clear hbr
      go_wp2_with fail
      go_ret
      exact ⟨rfl, HBR.out⟩
end Go.Proofs.YtmohdhifilclbaaDoor
