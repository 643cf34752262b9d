/- The contract of tseitin.Encode: 'encC', or what is amiss. Conditions: the circuit reads as pairs and ints of 64 bits, not too many; the literals too; the two errors lie as 'Sents2' says. -/
import Derived.Test.YtmgepagdkfghlaaDoorTsS
import Derived.Deep.DeepCutAuto
namespace Go.Proofs.YtmgepagdkfghlaaDoor
open Go.RowKit

theorem check_vals13 (n : Int) (ps : List (Int × Int)) (os : List Int) : checkC n ps os = 0 ∨ checkC n ps os = 102 ∨ checkC n ps os = 104 := by
  unfold checkC
  split
  · exact .inr (.inl rfl)
  · split
    · exact .inl rfl
    · exact .inr (.inr rfl)

set_option maxRecDepth 8000 in
set_option maxHeartbeats 4000000 in
theorem tenc_bad (A : Nat → Addr) (n : Int) (u v f : Value) (ps : List (Int × Int)) (os : List Int) (w : World) (hs : Sents2 w A) (hu : PRow w u ps) (hv : Row w v os) (hn : in64 n) (hpl : ps.length ≤ 8000) (hol : os.length ≤ 1000000)
    (hpb : ∀ x ∈ ps, in64 x.1 ∧ in64 x.2) (hob : ∀ o ∈ os, in64 o) (hc : checkC n ps os ≠ 0) :
    Calls Tryd.prog 8 #[circV n u v, f] w (EncPost A w (checkC n ps os) 0 []) := by
  have HCK := Lib.hid (fun W (hW : Below w.heap.size w W) => gcheck_any A n u v ps os W (hs.keep hW) (hu.keep hW) (hv.keep hW) hn hpl hol hpb hob)
  unfold EncPost
  obtain ⟨i, hi⟩ : ∃ i : Nat, errC A (checkC n ps os) = .iface 90 (.pointer (some (A i))) := by
    rcases check_vals13 n ps os with h | h | h
    · exact absurd h hc
    · rw [h, errC_lim]; exact ⟨_, rfl⟩
    · rw [h, errC_ran]; exact ⟨_, rfl⟩
  rw [hi] at HCK ⊢
  obtain ⟨a1, c1, rfl, hu1, hu2, hu3⟩ := hu
  obtain ⟨a2, c2, rfl, hv1, hv2, hv3⟩ := hv
  have HES := Lib.hid (ES.start w n (.slice a1 ps.length c1) (.slice a2 os.length c2) 25 29)
  have HB := Lib.hid (es_bel w (.cells #[.int .i64 n, .slice a1 ps.length c1, .slice a2 os.length c2] 25) (.cells #[.int .i64 0, .slice none 0 0] 29))
  clear hs hu1 hu2 hu3 hv1 hv2 hv3 hn hpl hol hpb hob hc hi
  unfold circV at *
  generalize ps.length = m at *
  generalize os.length = l at *
  have HC1 := Lib.hid (HCK.out _ HB.out)
  clear HCK
  go_enter Tryd.func8, Tryd.ntmps8
  go_wp2_with fail
  generalize (w.alloc (.cells #[.int .i64 n, .slice a1 m c1, .slice a2 l c2] 25)).alloc (.cells #[.int .i64 0, .slice none 0 0] 29) = w0 at *
  refine HC1.out.mono ?_
  rintro e w1 ⟨rfl, hb1⟩
  have HE1 := Lib.hid (HES.out.below (hb1.mono HES.out.sz))
  have HB1 := Lib.hid (HB.out.trans (hb1.mono HB.out.size))
  obtain ⟨z0, z1, z2, r0, r1, rf, rs⟩ := HE1.out
  clear hb1
  go_wp2_with fail
  exact bodyPost_ret (v := .tuple #[.agg #[.int .i64 0, .slice none 0 0], .iface 90 (.pointer (some (A i)))]) (by simp [results, Tryd.results8, go_sem, r0, r1]) rfl ⟨⟨_, rfl, CRow.nil _ _⟩, (HB1.out.setCell (by simp) _).setCell (by simp) _⟩

theorem all_take13 (f : Int → Bool) (xs : List Int) (k : Nat) (h : k < xs.length) : (xs.take (k + 1)).all f = ((xs.take k).all f && f (xs.getD k 0)) := by
  rw [List.take_succ_eq_append_getElem h, List.all_append]
  simp [List.getD, h]
theorem all_not13 (f : Int → Bool) (xs : List Int) (k : Nat) (h : k < xs.length) (hf : f (xs.getD k 0) = false) : xs.all f = false := by
  rw [List.all_eq_false]
  exact ⟨xs[k], List.getElem_mem h, by simp only [List.getD, List.getElem?_eq_getElem h, Option.getD_some] at hf; rw [hf]; simp⟩

set_option maxRecDepth 8000 in
set_option maxHeartbeats 4000000 in
theorem tenc_ran (A : Nat → Addr) (N : Nat) (u v f : Value) (ps : List (Int × Int)) (os fs : List Int) (w : World) (hs : Sents2 w A) (hu : PRow w u ps) (hv : Row w v os) (hf : Row w f fs) (hol : os.length ≤ 1000000)
    (hpb : ∀ x ∈ ps, in64 x.1 ∧ in64 x.2) (hob : ∀ o ∈ os, in64 o) (hfb : ∀ l ∈ fs, in64 l) (hc : checkC (N : Int) ps os = 0) (hbad : fs.all (okO (N + ps.length)) = false) :
    Calls Tryd.prog 8 #[circV (N : Int) u v, f] w (EncPost A w 104 0 []) := by
  obtain ⟨hnm, hokp, hoko⟩ := check_zero8 hc
  have HCK := Lib.hid (fun W (hW : Below w.heap.size w W) => gcheck_any A (N : Int) u v ps os W (hs.keep hW) (hu.keep hW) (hv.keep hW) ⟨by omega, by omega⟩ (by omega) hol hpb hob)
  rw [hc, show errC A 0 = .nilIface from rfl] at HCK
  unfold EncPost
  rw [errC_ran]
  have HS3 := Lib.hid (fun W (hW : Below w.heap.size w W) => (hs.keep hW).c3)
  obtain ⟨a1, c1, rfl, hu1, hu2, hu3⟩ := hu
  obtain ⟨a2, c2, rfl, hv1, hv2, hv3⟩ := hv
  obtain ⟨a3, c3, rfl, hf1, hf2, hf3⟩ := hf
  unfold maxLen at hf2
  have HF := Lib.hid hf3
  have HES := Lib.hid (ES.start w (N : Int) (.slice a1 ps.length c1) (.slice a2 os.length c2) 25 29)
  have HB := Lib.hid (es_bel w (.cells #[.int .i64 (N : Int), .slice a1 ps.length c1, .slice a2 os.length c2] 25) (.cells #[.int .i64 0, .slice none 0 0] 29))
  have HFB : Hid (∀ k, k < fs.length → in64 (fs.getD k 0)) := fun k hk => hfb _ (by simp [List.getD, hk])
  have HTK := Lib.hid (fun k hk => all_take13 (okO (N + ps.length)) fs k hk)
  have HTE : Hid (fs.take fs.length = fs) := List.take_length
  have HBAD := Lib.hid hbad
  clear hs hu1 hu2 hu3 hv1 hv2 hv3 hf3 hol hpb hob hfb hc hokp hoko hbad
  unfold circV at *
  generalize ps.length = m at *
  generalize os.length = l at *
  generalize hr : fs.length = r at *
  have HR := Lib.hid hr; clear hr
  have HC1 := Lib.hid (HCK.out _ HB.out)
  clear HCK
  go_enter Tryd.func8, Tryd.ntmps8
  go_wp2_with fail
  generalize (w.alloc (.cells #[.int .i64 (N : Int), .slice a1 m c1, .slice a2 l c2] 25)).alloc (.cells #[.int .i64 0, .slice none 0 0] 29) = w0 at *
  refine HC1.out.mono ?_
  rintro e w1 ⟨rfl, hb1⟩
  have HE1 := Lib.hid (HES.out.below (hb1.mono HES.out.sz))
  have HB1 := Lib.hid (HB.out.trans (hb1.mono HB.out.size))
  have HV1 := Lib.hid (EV.start w1 ((N : Int) + (m : Int)) 29)
  have HQ1 : Hid (w.heap.size + 2 ≤ w1.heap.size) := HE1.out.sz
  obtain ⟨z0, z1, z2, r0, r1, rf, rs⟩ := HE1.out
  clear hb1
  go_wp2_with fail
  generalize hw2 : w1.alloc (.cells #[.int .i64 ((N : Int) + (m : Int)), .slice none 0 0] 29) = w2 at *
  have HE2 := Lib.hid (HE1.out.below (HV1.out.bel.mono HQ1.out))
  have HB2 := Lib.hid (HB1.out.trans (HV1.out.bel.mono (by have := HQ1.out; omega)))
  clear hw2 z0 z1 z2 r0 r1 rf rs
  obtain ⟨v0, v1, vf, vl, _, _⟩ := HV1.out
  go_loop [32, 9] (fun i _ => ∃ k : Nat, k ≤ r ∧ i = .int .i64 (k : Int) ∧ Hid ((fs.take k).all (okO (N + m)) = true)) (fun i _ => r - (intOf i).toNat)
  case atStart => exact ⟨0, Nat.zero_le _, rfl, rfl⟩
  case round =>
    obtain ⟨k, hk, rfl, HQ⟩ := hrel
    by_cases hlt : k < r
    · obtain ⟨b, off, ha, hbl, hcl⟩ := HF.out.resolve_left (by omega)
      subst ha
      have y0 := (HB2.out.cell (p := ⟨b, off + k, none⟩) hbl).trans (hcl k hlt)
      obtain ⟨p1, p2⟩ := HFB.out k hlt
      have HT := Lib.hid (HTK.out k hlt)
      rw [HQ.out, Bool.true_and] at HT
      clear hcl
      generalize fs.getD k 0 = y at *
      have hi := okO_iff (N + m) y
      cases hy : okO (N + m) y with
      | true =>
        rw [hy] at hi HT
        have hi2 := hi.1 rfl
        have d1 : decide (y < 0) = false := decide_eq_false (by omega)
        have d2 : decide ((N : Int) + (m : Int) < y / 2) = false := decide_eq_false (by omega)
        have q1 : ¬ y < 0 := by omega
        have q2 : ¬ (N : Int) + (m : Int) < y / 2 := by omega
        clear hi hi2
        go_wp2_with fail
        go_round
        case rel => exact ⟨k + 1, by omega, by go_num, HT.out⟩
        case measure => simp [intOf]; omega
      | false =>
        rw [hy] at hi
        have hi2 : ¬ (0 ≤ y ∧ y / 2 ≤ (((N + m : Nat)) : Int)) := fun h => by cases hi.2 h
        have s3 := HS3.out _ HB2.out
        obtain ⟨_, _, _, r0, r1, rf, rs⟩ := HE2.out
        clear hi HT HS3
        by_cases q1 : y < 0
        · go_wp2_with fail
          go_region
          go_wp2
          exact bodyPost_ret (v := .tuple #[.agg #[.int .i64 0, .slice none 0 0], .iface 90 (.pointer (some (A 3)))]) (by simp [results, Tryd.results8, go_sem, r0, r1]) rfl ⟨⟨_, rfl, CRow.nil _ _⟩, (((HB2.out.drew).setCell (by simp) _).setCell (by simp) _)⟩
        · have q2 : (N : Int) + (m : Int) < y / 2 := by omega
          have q3 : decide ((N : Int) + (m : Int) < y / 2) = true := decide_eq_true q2
          go_wp2_with fail
          go_region
          go_wp2
          exact bodyPost_ret (v := .tuple #[.agg #[.int .i64 0, .slice none 0 0], .iface 90 (.pointer (some (A 3)))]) (by simp [results, Tryd.results8, go_sem, r0, r1]) rfl ⟨⟨_, rfl, CRow.nil _ _⟩, (((HB2.out.drew).setCell (by simp) _).setCell (by simp) _)⟩
    · exfalso
      have hk2 : k = r := by omega
      have := HQ.out
      rw [hk2, HTE.out, HBAD.out] at this
      cases this
end Go.Proofs.YtmgepagdkfghlaaDoor
