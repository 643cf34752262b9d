/- A graph beside a row of literals that is written in place ('CpI'), since a world W1. Conditions: those typed. · The contract of look's Copy: 'copyV'. Conditions: the circuit is right, the literal one of it; the given literals are the graph's; what is read lies apart from the graph ('hR'). · A copied cone is worth what the literal is worth, with what the given literals are worth in the inputs' places. Plain facts on ints and lists; no conditions beyond those typed. · The law LookCopies: true for whatever arguments. Conditions: the slices and the numbers read as 64-bit ints; the two errors lie as 'Sents2' says. -/
import Derived.Test.YtdmhjpofinnpmaaDoorLkA
import Derived.Test.YtdmhjpofinnpmaaDoorBst
import Derived.Test.YtdmhjpofinnpmaaDoorLkC
import Derived.Test.YtdmhjpofinnpmaaDoorLkM
import Derived.Test.YtdmhjpofinnpmaaDoorLkG
import Derived.Deep.DeepCutAuto
import Derived.Deep.RegionHeld3
import Derived.Test.YtdmhjpofinnpmaaDoorLkI
import Derived.Test.YtdmhjpofinnpmaaDoorLawHg
namespace Go.Proofs.YtdmhjpofinnpmaaDoor
open Go.RowKit

/-- Since W1 the graph (its blocks S then) and the row at q alone have turned. -/
def CpI (G : World → List Nat → Gr → Prop) (W1 : World) (S : List Nat) (q : Nat) (g : Gr) (t : List Int) (W : World) : Prop :=
  ∃ S', G W S' g ∧ Fresh W1 S S' ∧ q ∉ S' ∧ Chg (q :: S) W1 W ∧ CelG (Value.int .i64) 0 W q t
theorem CpI.chg {G : World → List Nat → Gr → Prop} {W1 : World} {S : List Nat} {q : Nat} {g : Gr} {t : List Int} {W : World} (h : CpI G W1 S q g t W) : Chg (q :: S) W1 W := by obtain ⟨_, _, _, _, h, _⟩ := h; exact h
theorem CpI.cel {G : World → List Nat → Gr → Prop} {W1 : World} {S : List Nat} {q : Nat} {g : Gr} {t : List Int} {W : World} (h : CpI G W1 S q g t W) : CelG (Value.int .i64) 0 W q t := by obtain ⟨_, _, _, _, _, h⟩ := h; exact h
theorem CpI.keep {G : World → List Nat → Gr → Prop} (hk : GKind G) {W1 : World} {S : List Nat} {q : Nat} {g : Gr} {t : List Int} {W W' : World} (h : CpI G W1 S q g t W) (hb : Below W.heap.size W W') : CpI G W1 S q g t W' := by
  obtain ⟨S', h1, h2, h3, h4, h5⟩ := h
  exact ⟨S', hk.keep h1 (Chg.of_below (S := []) hb) (by simp), h2, h3, h4.trans (Chg.of_below (S := []) hb) (by intro i hi; cases hi), h5.keep hb⟩
theorem CpI.start {G : World → List Nat → Gr → Prop} {W1 : World} {S : List Nat} {q : Nat} {g : Gr} {t : List Int} (h : G W1 S g) (hq : q ∉ S) (hc : CelG (Value.int .i64) 0 W1 q t) : CpI G W1 S q g t W1 := ⟨S, h, Fresh.refl _ _, hq, Chg.refl _ _, hc⟩
/-- A call on the graph, in a world in which more has been made. -/
theorem CpI.callAt {G : World → List Nat → Gr → Prop} (hk : GKind G) {W1 : World} {S : List Nat} {q : Nat} {g : Gr} {t : List Int} {W W2 : World} (h : CpI G W1 S q g t W) (hb2 : Below W.heap.size W W2) {P : Program} {f : Nat} {args : Array Value} {r : Gr × Int} (hc : ∀ S', G W2 S' g → Calls P f args W2 (GPost G W2 S' r)) :
    Calls P f args W2 fun e w' => e = .returned (.int .i64 r.2) ∧ CpI G W1 S q r.1 t w' ∧ ∀ p o, W.heap.size ≤ p → p < W2.heap.size → w'.cell? ⟨p, o, none⟩ = W2.cell? ⟨p, o, none⟩ := by
  obtain ⟨S', h1, h2, h3, h4, h5⟩ := h
  have hG := hk.keep h1 (Chg.of_below (S := []) hb2) (by simp)
  refine (hc S' hG).mono ?_
  rintro e w' ⟨he, ⟨S'', hG', hF⟩, hC⟩
  have hq2 : q < W2.heap.size := Nat.lt_of_lt_of_le h5.sq hb2.size
  have h4' : Chg (q :: S) W1 W2 := h4.trans (Chg.of_below (S := []) hb2) (by intro i hi; cases hi)
  have hblk : w'.heap[q]? = W2.heap[q]? := hC.block q hq2 h3
  refine ⟨he, ⟨S'', hG', h2.trans hF h4'.size, fun hm => (hF q hm).elim h3 (fun h' => absurd hq2 (Nat.not_lt.2 h')), h4'.trans hC (fun i hi => (h2 i hi).imp (fun h => List.mem_cons_of_mem _ h) id), ?_⟩, fun p o hp hp2 => hC.cell hp2 fun hm => absurd (hk.lt h1 p hm) (Nat.not_lt.2 hp)⟩
  have h6 := h5.keep hb2
  exact ⟨Nat.lt_of_lt_of_le hq2 hC.size, fun i hi => (World.cell?_of_block (a := ⟨q, i, none⟩) hblk).trans (h6.cells i hi), fun i => (World.frozen?_of_block (a := ⟨q, i, none⟩) hblk).trans (h6.free i)⟩
theorem CpI.set {G : World → List Nat → Gr → Prop} (hk : GKind G) {W1 : World} {S : List Nat} {q : Nat} {g : Gr} {t : List Int} {W : World} (h : CpI G W1 S q g t W) (i : Nat) (y : Int) : CpI G W1 S q g (t.set i y) (W.setCell ⟨q, i, none⟩ (.int .i64 y)) := by
  obtain ⟨S', h1, h2, h3, h4, h5⟩ := h
  exact ⟨S', hk.keep h1 ((Chg.refl [q] W).setCell (a := ⟨q, i, none⟩) (.inl (by simp)) _) (fun j hj hm => by rw [List.mem_singleton] at hm; subst hm; exact h3 hj), h2, h3, h4.setCell (a := ⟨q, i, none⟩) (.inl (by simp)) _, h5.set i y⟩
/-- What it comes to since an elder world. -/
theorem CpI.post {G : World → List Nat → Gr → Prop} {w W1 : World} {S : List Nat} {q : Nat} {g : Gr} {t : List Int} {W : World} (h : CpI G W1 S q g t W) (hc : Chg S w W1) (hq : w.heap.size ≤ q) (y : Int) : GPost G w S (g, y) (.returned (.int .i64 y)) W := by
  obtain ⟨S', h1, h2, h3, h4, h5⟩ := h
  exact ⟨rfl, ⟨S', h1, (Fresh.refl w S).trans h2 hc.size⟩, hc.trans h4 (fun i hi => by
    rcases List.mem_cons.1 hi with rfl | h
    · exact .inr hq
    · exact .inl h)⟩
theorem CpI.old {G : World → List Nat → Gr → Prop} {w W1 : World} {S : List Nat} {q : Nat} {g : Gr} {t : List Int} {W : World} (h : CpI G W1 S q g t W) (hc : Chg S w W1) (hq : w.heap.size ≤ q) : Chg S w W :=
  hc.trans h.chg (fun i hi => by
    rcases List.mem_cons.1 hi with rfl | h
    · exact .inr hq
    · exact .inl h)
theorem cell_frozen {S : List Nat} {w w' : World} (h : Chg S w w') {b : Nat} (hb : b < w.heap.size) (hn : b ∉ S) (o : Nat) : w'.frozen? ⟨b, o, none⟩ = w.frozen? ⟨b, o, none⟩ := World.frozen?_of_block (a := ⟨b, o, none⟩) (h.block b hb hn)
end Go.Proofs.YtdmhjpofinnpmaaDoor

namespace Go.Proofs.YtdmhjpofinnpmaaDoor
open Go.RowKit

theorem copyC_take (N : Nat) (ps : List (Int × Int)) (g : Gr) (by_ cone : List Int) (j : Nat) (h : j < cone.length) : copyC N ps g by_ (cone.take (j + 1)) = stepC N ps (copyC N ps g by_ (cone.take j)) (cone.getD j 0) := by
  rw [← copyC_snoc, List.take_succ_eq_append_getElem h]; simp [List.getD, h]
theorem splice_none {α : Type} (L : List α) (k : Nat) : splice L k [] = L := by simp [splice]
theorem cone_get {N : Nat} {f : Nat → Bool} {k j : Nat} (hj : j < (coneF N f k).length) : ∃ n : Nat, (coneF N f k).getD j 0 = (n : Int) ∧ N < n ∧ n < k := by
  have hm : (coneF N f k).getD j 0 ∈ coneF N f k := by rw [show (coneF N f k).getD j 0 = (coneF N f k)[j] by simp [List.getD, hj]]; exact List.getElem_mem hj
  obtain ⟨n, e, h1, _, h3⟩ := mem_coneF.1 hm
  exact ⟨n, e, h3, h1⟩

set_option maxRecDepth 8000 in
set_option maxHeartbeats 8000000 in
theorem lcopy_any (A : Nat → Addr) (N : Nat) (u v gv by_v : Value) (ps : List (Int × Int)) (os bys : List Int) (l : Int) (L : Nat) (w : World) (S : List Nat) (g : Gr) (hG : GrM w A gv S g) (hR : ∀ W, Chg S w W → Sents2 W A ∧ PRow W u ps ∧ Row W v os ∧ Row W by_v bys)
    (hol : os.length ≤ 1000000) (hob : ∀ o ∈ os, in64 o) (hc : checkC (N : Int) ps os = 0) (h0 : 0 ≤ l) (hL : l / 2 = (L : Int)) (hLN : L ≤ N + ps.length) (hbl : ∀ b ∈ bys, g.isB b = true) (hg : g.len + N + ps.length + 1 ≤ 8000) (_hbn : bys.length ≤ 1000) :
    Calls Tryd.prog 25 #[gv, circV (N : Int) u v, .int .i64 l, by_v] w (GPost (fun W S g => GrM W A gv S g) w S (copyV N ps g bys l)) := by
  obtain ⟨hnm, hokp, hoko⟩ := check_zero8 hc
  have HK := Lib.hid (grKind A gv)
  have HSL := Lib.hid (fun i (hi : i ∈ S) => HK.out.lt hG i hi)
  have HIS := Lib.hid (fun W (hW : Chg S w W) => lis_yes A N u v ps os l W (hR W hW).1 (hR W hW).2.1 (hR W hW).2.2.1 hol hob hc h0 (by omega))
  have HCO := Lib.hid (fun W (hW : Chg S w W) => lcone_any A N u v ps os l L W (hR W hW).1 (hR W hW).2.1 (hR W hW).2.2.1 hol hob hc h0 hL hLN)
  have HGA := Lib.hid (fun W (hW : Chg S w W) n h1 h2 => lgate_any N n u v ps W (hR W hW).2.1 hnm h1 h2)
  have HSE := Lib.hid (fun W (hW : Chg S w W) => (hR W hW).1)
  have HBY := Lib.hid (fun W (hW : Chg S w W) => (hR W hW).2.2.2)
  have HOX : Hid (∀ k, k < ps.length → 0 ≤ (ps.getD k (0, 0)).1 ∧ 0 ≤ (ps.getD k (0, 0)).2 ∧ (ps.getD k (0, 0)).1 / 2 ≤ ((N + k : Nat) : Int) ∧ (ps.getD k (0, 0)).2 / 2 ≤ ((N + k : Nat) : Int)) := fun k hk => by
    have := (okP_iff _ _ _).1 (hokp k hk)
    omega
  have hLt : (l / 2).toNat = L := by omega
  have HL62 : Hid (l < 20000 ∧ l / 2 = (L : Int)) := ⟨by omega, hL⟩
  have HCV : Hid (copyV N ps g bys l = ((copyC N ps g bys (coneL N ps L)).1, renL (copyC N ps g bys (coneL N ps L)).2 l)) := by unfold Hid copyV; rw [hLt]
  have HCI := Lib.hid (fun k (hk : k ≤ (coneL N ps L).length) => CopI.at (N := N) (ps := ps) hbl (coneL N ps L) (by have := coneF_len N (hangs N ps L) (L + 1); unfold coneL; omega) k hk)
  have HCT := Lib.hid (fun j (hj : j < (coneL N ps L).length) => copyC_take N ps g bys (coneL N ps L) j hj)
  have HCG := Lib.hid (fun j (hj : j < (coneL N ps L).length) => cone_get (N := N) (f := hangs N ps L) (k := L + 1) (j := j) hj)
  have HCE : Hid ((coneL N ps L).take (coneL N ps L).length = coneL N ps L) := List.take_length
  have HC0 : Hid (copyC N ps g bys ((coneL N ps L).take 0) = (g, inL N ps.length bys)) := by rw [List.take_zero]; rfl
  have HIN := Lib.hid (inL_in N ps.length bys)
  have HIL := Lib.hid (inL_len N ps.length bys)
  have HCL0 : Hid ((coneL N ps L).length ≤ N + ps.length + 1) := by have := coneF_len N (hangs N ps L) (L + 1); unfold Hid coneL; omega
  rw [show coneF N (hangs N ps L) (L + 1) = coneL N ps L from rfl] at HCG
  obtain ⟨a1, c1, rfl, _⟩ := (hR w (Chg.refl _ _)).2.1
  obtain ⟨a2, c2, rfl, _⟩ := (hR w (Chg.refl _ _)).2.2.1
  obtain ⟨a3, c3, rfl, hq1, hq2, hq3⟩ := (hR w (Chg.refl _ _)).2.2.2
  unfold maxLen at hq2
  have HQ := Lib.hid (fun W (hW : Chg S w W) => HBY.out W hW)
  obtain ⟨cs, hcs⟩ : ∃ cs, cs = (bys.take N).map (Value.int .i64) := ⟨_, rfl⟩
  have hcl : cs.length = Nat.min bys.length N := by rw [hcs, List.length_map, List.length_take]; exact Nat.min_comm _ _
  have HCGE : Hid (∀ j x, cs[j]? = some x → j < N ∧ j < bys.length ∧ x = .int .i64 (bys.getD j 0)) := fun j x hj => by
    rw [hcs, List.getElem?_map] at hj
    by_cases h1 : j < N
    · by_cases h2 : j < bys.length
      · rw [List.getElem?_take_of_lt h1, List.getElem?_eq_getElem h2] at hj
        simp at hj
        exact ⟨h1, h2, by simp [List.getD, h2, hj]⟩
      · rw [List.getElem?_take_of_lt h1, List.getElem?_eq_none (by omega)] at hj; cases hj
    · rw [List.getElem?_eq_none (by simp; omega)] at hj; cases hj
  have HCS1 : Hid (∀ x ∈ cs, x.oneCell' = true) := fun x hx => by
    rw [hcs] at hx
    obtain ⟨b, _, rfl⟩ := List.mem_map.1 hx
    rfl
  have HCL := Lib.hid hcl
  rw [← hcs] at HIN
  have HBX := Lib.hid (CV.new w (N : Int) (.slice a1 ps.length c1) (.slice a2 os.length c2) 26)
  have HBW0 : Hid (Below w.heap.size w (w.alloc (.cells #[.int .i64 (N : Int), .slice a1 ps.length c1, .slice a2 os.length c2] 26))) := (Below.refl _ w).alloc (Nat.le_refl _) _
  have HG := Lib.hid (fun W (hW : Below w.heap.size w W) => HK.out.keep hG (Chg.of_below (S := []) hW) (by simp))
  have HCB := Lib.hid (fun W (hW : Below w.heap.size w W) => Chg.of_below (S := S) hW)
  have HW0 : Hid (w.heap.size < (w.alloc (.cells #[.int .i64 (N : Int), .slice a1 ps.length c1, .slice a2 os.length c2] 26)).heap.size) := by unfold Hid; simp
  clear hc hoko hokp hob hcs hcl hR hG hbl hLt hq3 hol hL
  unfold circV at *
  generalize coneL N ps L = cone at *
  generalize hm : ps.length = m at *
  have HM := Lib.hid hm
  clear hm
  generalize os.length = lo at *
  generalize hlb : bys.length = lb at *
  have HLB := Lib.hid hlb
  clear hlb
  go_enter Tryd.func25, Tryd.ntmps25
  go_wp2_with fail
  generalize w.alloc (.cells #[.int .i64 (N : Int), .slice a1 m c1, .slice a2 lo c2] 26) = w0 at *
  refine (HIS.out _ (HCB.out _ HBW0.out)).mono ?_
  rintro e w1 ⟨rfl, hb1⟩
  have HB1 := Lib.hid (HBX.out.keep hb1)
  have HBW1 := Lib.hid (HBW0.out.trans (hb1.mono HBW0.out.size))
  have HS01 : Hid (w.heap.size < w1.heap.size) := Nat.lt_of_lt_of_le HW0.out hb1.size
  obtain ⟨k0, k1, k2, kf, kl⟩ := HB1.out
  clear hb1 HBX
  go_upto_region 4 with (at_make; refine wpList_makeH (Value.int .i64) 0 22 3 8 Tryd.underlying22 infoInt rfl (by decide) rfl _ _ rfl w1 (1 + N + m) rfl rfl (by omega) ?_; intro w2 hh hb2 hsz2; rw [show 1 + N + m = N + 1 + m by omega]; have HH := Lib.hid hh; have HB2 := Lib.hid (HB1.out.keep hb2); have HBW2 := Lib.hid (HBW1.out.trans (hb2.mono HBW1.out.size)); have HSZ2 := Lib.hid hsz2; obtain ⟨t0, t1, t2, tf, tl⟩ := HB2.out; clear hh hb2 hsz2 k0 k1 k2 kf kl)
  rw [show 1 + N + m = N + 1 + m by omega] at HH
  have hsq : w.heap.size < w1.heap.size := HS01.out
  generalize w1.heap.size = q at *
  have HBQ := Lib.hid (fun w3 (h : Below q w2 w3) => HBW2.out.trans (h.mono (Nat.le_of_lt hsq)))
  have HBC := Lib.hid (fun w3 (h : Below q w2 w3) => (show CV w3 w.heap.size (N : Int) (.slice a1 m c1) (.slice a2 lo c2) from ⟨(h.cell (p := ⟨w.heap.size, 0, none⟩) hsq).trans HB2.out.c0, (h.cell (p := ⟨w.heap.size, 1, none⟩) hsq).trans HB2.out.c1, (h.cell (p := ⟨w.heap.size, 2, none⟩) hsq).trans HB2.out.c2, fun k => (h.frozen (p := ⟨w.heap.size, k, none⟩) hsq).trans (HB2.out.fr k), Nat.lt_of_lt_of_le HB2.out.lt h.size⟩))
  have HHI : Hid (∀ w3 : World, w3.heap[q]? = some (.cells (splice ((List.replicate (N + 1 + m) (0 : Int)).map (Value.int .i64)) 1 cs).toArray 3 (0, 0)) → CelG (Value.int .i64) 0 w3 q (inL N m bys)) := fun w3 h => by
    rw [HIN.out] at h
    exact CelG.of_own (own_at (n := N + 1 + m) h (Nat.le_refl q) (by rw [List.length_map, HIL.out]) (by unfold maxLen; omega))
  go_cut [9] (fun o w3 => o = .slice (some ⟨q, 0, none⟩) (N + 1 + m) (N + 1 + m) ∧ CelG (Value.int .i64) 0 w3 q (inL N m bys) ∧ Below q w2 w3)
  case first =>
    rcases Nat.eq_zero_or_pos N with h0 | h0
    · subst h0
      have hcs0 : cs = [] := List.eq_nil_of_length_eq_zero (by rw [HCL.out]; exact Nat.min_zero _)
      have HH3 := Lib.hid (HHI.out w2 (by rw [hcs0, splice_none]; exact HH.out))
      clear HHI HCGE HIN HIL HCL HCS1
      rcases Nat.eq_zero_or_pos m with hm0 | hm0
      · subst hm0
        go_wp2_with (refine wpList_copy_nothing rfl (.tmp 29) (.tmp 30) 22 22 rfl 3 Tryd.underlying22 (by kernel_rfl) _ _ _ _ _ _ rfl rfl (Nat.min_zero _) ?_)
        go_wp2_with fail
        go_meet
        exact ⟨rfl, HH3.out, Below.refl _ _⟩
      · have hne : ¬ m = 0 := by omega
        go_wp2_with (refine wpList_copy_nothing rfl (.tmp 29) (.tmp 30) 22 22 rfl 3 Tryd.underlying22 (by kernel_rfl) _ _ _ _ _ _ rfl rfl (Nat.min_zero _) ?_)
        go_wp2_with fail
        go_meet
        exact ⟨rfl, HH3.out, Below.refl _ _⟩
    · have hpos : 0 < cs.length → ∃ ad, a3 = some ad ∧ ∀ j v, cs[j]? = some v → w2.cell? (ad.add j) = some v := fun hp => by
        have hli : lb ≠ 0 := fun e => by rw [HCL.out, e] at hp; simp at hp
        obtain ⟨ax, cx, he, _, _, hx3⟩ := HBY.out w2 (HCB.out _ HBW2.out)
        injection he with he1 _ _
        subst he1
        obtain ⟨b, off, ha, hbl, hcl⟩ := hx3.resolve_left (by rw [HLB.out]; exact hli)
        refine ⟨_, ha, fun j v hj => ?_⟩
        obtain ⟨h1, h2, rfl⟩ := HCGE.out j v hj
        rw [show (⟨b, off, none⟩ : Addr).add j = ⟨b, off + j, none⟩ by unfold Addr.add; split <;> simp_all]
        exact hcl j (by rw [HLB.out]; exact h2)
      have HPOS := Lib.hid hpos
      have HFIT : Hid (1 + cs.length ≤ ((List.replicate (N + 1 + m) (0 : Int)).map (Value.int .i64)).length) := by
        unfold Hid
        rw [List.length_map, List.length_replicate, HCL.out]
        have h : lb.min N ≤ N := Nat.min_le_right lb N
        omega
      have hne : ¬ N = 0 := by omega
      have HCL1 : Hid (cs.length = Nat.min lb (1 + N - 1)) := by unfold Hid; rw [show 1 + N - 1 = N by omega]; exact HCL.out
      clear hpos
      go_wp2_with (refine wpList_copy_splice rfl (.tmp 29) (.tmp 30) 22 22 rfl 3 Tryd.underlying22 (by kernel_rfl) (some ⟨q, 1, none⟩) a3 (1 + N - 1) _ lb c3 rfl rfl q 1 _ 3 HH.out cs HCL1.out (fun hp => ⟨rfl, HPOS.out hp⟩) HFIT.out HCS1.out q w2 (Below.refl _ _) (Nat.le_refl _) ?_; intro w3 hw3 hb3)
      go_wp2_with fail
      go_meet
      exact ⟨rfl, HHI.out w3 hw3.out, hb3⟩
  case rest =>
    obtain ⟨rfl, hcel, hb3⟩ := hcut
    obtain ⟨w3, rfl⟩ : ∃ w3 : World, w3 = wc := ⟨_, rfl⟩
    have HCEL := Lib.hid hcel
    have HBW3 := Lib.hid (HBQ.out _ hb3)
    have HBX3 := Lib.hid (HBC.out _ hb3)
    have HQ3 : Hid (q < w3.heap.size) := hcel.sq
    clear hcel hb3 HBQ HBC t0 t1 t2 tf tl HHI HH HB2 HBW2 HSZ2 HIN HCS1 HCGE HCL HB1 HBW1 HBW0
    obtain ⟨t0, t1, t2, tf, tl⟩ := HBX3.out
    have HC3 := Lib.hid (HCO.out _ (HCB.out _ HBW3.out))
    go_wp2_with fail
    refine HC3.out.mono ?_
    rintro e w4 ⟨⟨zc, rfl, hzc⟩, hb4⟩
    have HBW4 := Lib.hid (HBW3.out.trans (hb4.mono HBW3.out.size))
    have HBX4 := Lib.hid (HBX3.out.keep hb4)
    have HCP4 := Lib.hid (CpI.start (G := fun W S g => GrM W A gv S g) (HG.out _ HBW4.out) (fun hm => absurd (HSL.out q hm) (Nat.not_lt.2 (Nat.le_of_lt hsq))) (HCEL.out.keep hb4))
    have HCH := Lib.hid (fun g t W (h : CpI (fun W S g => GrM W A gv S g) w4 S q g t W) => h.old (HCB.out _ HBW4.out) (Nat.le_of_lt hsq))
    have HOC := Lib.hid (fun W (hW : Chg (q :: S) w4 W) => own_row (own_chg hzc hW (fun k hk hm => by
      have h1 := (hzc.lt k hk).1
      rcases List.mem_cons.1 hm with h | h
      · have := HQ3.out; omega
      · have := HSL.out k h; have := HBW3.out.size; omega)))
    have HOB := Lib.hid (fun W (hW : Chg (q :: S) w4 W) => (show CV W w.heap.size (N : Int) (.slice a1 m c1) (.slice a2 lo c2) from by
      have hn : w.heap.size ∉ q :: S := fun hm => by
        rcases List.mem_cons.1 hm with h | h
        · omega
        · have := HSL.out _ h; omega
      have hl : w.heap.size < w4.heap.size := HBX4.out.lt
      exact ⟨(hW.cell hl hn).trans HBX4.out.c0, (hW.cell hl hn).trans HBX4.out.c1, (hW.cell hl hn).trans HBX4.out.c2, fun k => (cell_frozen hW hl hn k).trans (HBX4.out.fr k), Nat.lt_of_lt_of_le hl hW.size⟩))
    obtain ⟨azc, czc, rfl, hzc1, hzc2⟩ := own_shape hzc
    unfold maxLen at hzc2
    clear hzc hb4 t0 t1 t2 tf tl HC3 HCEL HBX3 HCO HIS HBW3
    have HKQ : Hid (∀ j, (copyC N ps g bys (cone.take j)).2.length = N + 1 + m → True) := fun _ _ => trivial
    generalize hnc : cone.length = nc at *
    have HNC := Lib.hid hnc
    clear hnc
    go_wp2_with fail
    go_loopw [36, 11, 12] (fun i _ _ wr => ∃ j : Nat, j ≤ nc ∧ i = .int .i64 (j : Int) ∧ CpI (fun W S g => GrM W A gv S g) w4 S q (copyC N ps g bys (cone.take j)).1 (copyC N ps g bys (cone.take j)).2 wr) (fun i _ _ _ => nc - (intOf i).toNat)
    case atStart => exact ⟨0, Nat.zero_le _, rfl, by rw [HC0.out]; exact HCP4.out⟩
    case round =>
      obtain ⟨j, hj, rfl, hcp⟩ := hrel
      clear HCP4 HKQ
      have HI := Lib.hid (HCI.out j hj)
      have hchg := hcp.chg
      obtain ⟨z0, z1, z2, zf, zl⟩ := HOB.out wr hchg
      by_cases hlt : j < nc
      · have HST := Lib.hid (HCT.out j hlt)
        obtain ⟨n, hn, hn1, hn2⟩ := HCG.out j hlt
        obtain ⟨ax, cx, he, _, _, hx3⟩ := HOC.out wr hchg
        injection he with he1 _ _
        subst he1
        obtain ⟨b, off, ha, hbl, hcl⟩ := hx3.resolve_left (by rw [HNC.out]; omega)
        subst ha
        have y0 := hcl j (by rw [HNC.out]; exact hlt)
        rw [hn] at y0 HST
        obtain ⟨o1, o2, o3, o4⟩ := HOX.out (n - N - 1) (by omega)
        have HGT := Lib.hid (HGA.out wr (HCH.out _ _ _ hcp) n hn1 (by omega))
        unfold stepC at HST
        rw [show ((n : Int)).toNat = n by omega] at HST
        clear hcl hn hx3 hbl
        generalize ps.getD (n - N - 1) (0, 0) = xy at *
        obtain ⟨x, y⟩ := xy
        simp only at o1 o2 o3 o4 HGT HST
        have HCP := Lib.hid hcp
        clear hcp hchg
        generalize copyC N ps g bys (cone.take j) = s at *
        obtain ⟨gj, t⟩ := s
        simp only at HCP HST
        have hgl := HI.out.len
        have hnc1 := HCL0.out
        have htl : t.length = N + 1 + m := HI.out.by_.trans (by rw [HM.out])
        have HLO : Hid (LitsOk t) := litsOk_of (g := gj) (by simp only at hgl; omega) HI.out.lit
        have HLA := (isB_iff _ _).1 (renL_isB HI.out.lit x)
        have HLB2 := (isB_iff _ _).1 (renL_isB HI.out.lit y)
        simp only at hgl HLA HLB2
        have HTL := Lib.hid htl
        have HCW := Lib.hid HCP.out.cel
        clear HI htl
        go_wp2_with fail
        refine HGT.out.mono ?_
        rintro e wg ⟨rfl, hbg⟩
        have HCPG := Lib.hid (HCP.out.keep HK.out hbg)
        have hBA : Below wg.heap.size wg (wg.alloc (.cells #[.int .i64 x, .int .i64 y] 49)) := (Below.refl _ _).alloc (Nat.le_refl _) _
        obtain ⟨p0, p1⟩ := two_new wg wg.heap.size rfl (.int .i64 x) (.int .i64 y) 49
        have hpl : wg.heap.size < (wg.alloc (.cells #[.int .i64 x, .int .i64 y] 49)).heap.size := by simp
        clear hbg HGT HCP z0 z1 z2 zf zl y0
        go_upto_region 9 with fail
        generalize wg.alloc (.cells #[.int .i64 x, .int .i64 y] 49) = wp at *
        have HBD : Hid (Below wg.heap.size wg wp.drew) := hBA.drew
        have HCPD := Lib.hid (HCPG.out.keep HK.out HBD.out)
        have HRD : Hid (Row wp.drew (.slice (some ⟨q, 0, none⟩) (N + 1 + m) (N + 1 + m)) t) := by
          have h := HCPD.out.cel.row (N + 1 + m) (by rw [HTL.out]; exact Nat.le_refl _) (by unfold maxLen; omega)
          rw [HTL.out] at h
          exact h
        have HRX := Lib.hid (lren_any x _ t wp.drew HRD.out HLO.out (by omega) (by omega) (by rw [HTL.out]; omega))
        have HRY := Lib.hid (lren_any y _ t wp.drew HRD.out HLO.out (by omega) (by omega) (by rw [HTL.out]; omega))
        have HAN := Lib.hid (HCPG.out.callAt HK.out HBD.out (fun S' hG' => gand_any wp.drew hG' (HSE.out _ (HCH.out _ _ _ HCPD.out)) (renL t x) (renL t y) ⟨by omega, by omega⟩ ⟨by omega, by omega⟩))
        have HP0 := Lib.hid (And.intro p0 p1)
        have HP0D : Hid (wp.drew.cell? ⟨wg.heap.size, 0, none⟩ = some (.int .i64 x) ∧ wp.drew.cell? ⟨wg.heap.size, 1, none⟩ = some (.int .i64 y)) := HP0.out
        have HQW : Hid (q < wg.heap.size) := HCPG.out.cel.sq
        have HSA : Hid (∀ (gn : Gr) (z : Int) (w5 : World), CpI (fun W S g => GrM W A gv S g) w4 S q gn t w5 → (∀ p o, wg.heap.size ≤ p → p < wp.drew.heap.size → w5.cell? ⟨p, o, none⟩ = wp.drew.cell? ⟨p, o, none⟩) → (w5.cell? ⟨wg.heap.size, 0, none⟩ = some (.int .i64 x) ∧ w5.cell? ⟨wg.heap.size, 1, none⟩ = some (.int .i64 y)) ∧ ((w5.setCell ⟨q, n, none⟩ (.int .i64 z)).cell? ⟨wg.heap.size, 0, none⟩ = some (.int .i64 x) ∧ (w5.setCell ⟨q, n, none⟩ (.int .i64 z)).cell? ⟨wg.heap.size, 1, none⟩ = some (.int .i64 y)) ∧ w5.cell? ⟨q, n, none⟩ = some (.int .i64 (t.getD n 0)) ∧ w5.frozen? ⟨q, n, none⟩ = false ∧ CpI (fun W S g => GrM W A gv S g) w4 S q gn (t.set n z) (w5.setCell ⟨q, n, none⟩ (.int .i64 z))) := fun gn z w5 h5 hz => by
          have c0 := (hz wg.heap.size 0 (Nat.le_refl _) hpl).trans HP0D.out.1
          have c1 := (hz wg.heap.size 1 (Nat.le_refl _) hpl).trans HP0D.out.2
          have hqw := HQW.out
          exact ⟨⟨c0, c1⟩, ⟨(set_off (.inl (by omega))).trans c0, (set_off (.inl (by omega))).trans c1⟩, h5.cel.cells n (by rw [HTL.out]; omega), h5.cel.free n, h5.set HK.out n z⟩
        clear HRD HCPD HCPG hBA hpl p0 p1 HLO HLA HLB2
        generalize renL t x = rx at *
        generalize renL t y = ry at *
        generalize andG gj rx ry = r at *
        obtain ⟨gn, z⟩ := r
        simp only at HAN HST
        have hn0 : (0 : Int) ≤ (n : Int) := Int.natCast_nonneg n
        have hn3 : n < N + 1 + m := by omega
        generalize hK : N + 1 + m = K at *
        have HKE := Lib.hid hK
        clear hK
        have hn4 : (n : Int) < (K : Int) := by omega
        have hwn : IntKind.i64.wrap (n : Int) = (n : Int) := IntWalk.i64_in _ (by omega)
        generalize t.getD n 0 = told at *
        go_region_held3 (fun W => W.cell? ⟨wg.heap.size, 0, none⟩ = some (.int .i64 x) ∧ W.cell? ⟨wg.heap.size, 1, none⟩ = some (.int .i64 y)) (first | (with_reducible exact HP0.out) | (with_reducible exact HP0D.out) | (with_reducible exact HP5.out) | (with_reducible exact HP6.out) | (exact HP6.out)) (first
          | (go_at_call_of 42 (Value.int IntKind.i64 x); refine HRX.out.mono ?_; rintro e w' ⟨rfl, rfl⟩)
          | (go_at_call_of 42 (Value.int IntKind.i64 y); refine HRY.out.mono ?_; rintro e w' ⟨rfl, rfl⟩)
          | (go_at_call 41; refine HAN.out.mono ?_; rintro e w5 ⟨rfl, hB5, hz5⟩; obtain ⟨h5a, h5b, s0, sf, h5c⟩ := HSA.out gn z w5 hB5 hz5; have HP5 := Lib.hid h5a; have HP6 := Lib.hid h5b; have HF6 := Lib.hid h5c; clear hB5 hz5 h5a h5b h5c))
        all_goals
          have hKK := HKE.out
          subst hKK
          go_wp2_with fail
          go_roundw
        all_goals first
          | exact ⟨_, _, .int .i64 ((j : Int) + 1), ⟨j + 1, by first | omega | (have := HNC.out; omega), by go_num, by rw [HST.out]; exact HF6.out⟩, rfl, rfl, rfl⟩
          | exact ⟨j + 1, by omega, by go_num, by rw [HST.out]; exact HF6.out⟩
          | (simp [intOf]; omega)
      · have hjn : nc = j := by omega
        subst hjn
        have HE : Hid (cone.take nc = cone) := by unfold Hid; rw [← HNC.out]; exact List.take_length
        rw [HE.out] at HI hcp
        have HCP := Lib.hid hcp
        have HLO : Hid (LitsOk (copyC N ps g bys cone).2) := litsOk_of (by have := HI.out.len; have := HCL0.out; omega) HI.out.lit
        have htl : (copyC N ps g bys cone).2.length = N + 1 + m := HI.out.by_.trans (by rw [HM.out])
        have HRD : Hid (Row wr (.slice (some ⟨q, 0, none⟩) (N + 1 + m) (N + 1 + m)) (copyC N ps g bys cone).2) := by
          have h := hcp.cel.row (N + 1 + m) (by rw [htl]; exact Nat.le_refl _) (by unfold maxLen; omega)
          rw [htl] at h
          exact h
        have HRL := Lib.hid (lren_any l _ _ wr HRD.out HLO.out h0 (by have := HL62.out; omega) (by rw [htl]; have := HL62.out; omega))
        have HP := Lib.hid (HCP.out.post (HCB.out _ HBW4.out) (Nat.le_of_lt hsq) (renL (copyC N ps g bys cone).2 l))
        clear hcp hchg HI
        go_wp2_with fail
        refine HRL.out.mono ?_
        rintro e w' ⟨rfl, rfl⟩
        go_wp2_with fail
        go_ret
        rw [HCV.out]
        exact HP.out
end Go.Proofs.YtdmhjpofinnpmaaDoor

namespace Go.Proofs.YtdmhjpofinnpmaaDoor

theorem ren_worth {g : Gr} {t : List Int} {ins v : List Bool} (hl : ∀ j, g.isB (t.getD j 0) = true) (l : Int) (h : g.val ins (t.getD (l / 2).toNat 0) = v.getD (l / 2).toNat false) : g.val ins (renL t l) = worthV v l := by
  unfold renL worthV
  by_cases h2 : l % 2 = 0
  · rw [if_pos h2, h, show oddB l = false from decide_eq_false (by omega)]; simp
  · rw [if_neg h2, val_not _ _ _ (hl _), h, show oddB l = true from decide_eq_true (by omega)]; simp
/-- Beside what copying keeps: each node that counts and has been copied is worth what it was. -/
structure CopW (N : Nat) (ps : List (Int × Int)) (f : Nat → Bool) (ins vals : List Bool) (k : Nat) (s : Gr × List Int) : Prop where
  ok : s.1.Ok
  val : ∀ n, f n = true → n ≤ N ∨ n < k → s.1.val ins (s.2.getD n 0) = (nodesV N ps vals).getD n false
theorem copW_at {N : Nat} {ps : List (Int × Int)} {g : Gr} {bys : List Int} {ins vals : List Bool} {L : Nat} (hok : ∀ k, k < ps.length → okP N k (ps.getD k (0, 0)) = true) (hL : L ≤ N + ps.length) (hfine : g.Fine) (hb : ∀ b ∈ bys, g.isB b = true) (hv : ∀ i, i < N → vals.getD i false = g.val ins (bys.getD i 0)) (hlen : g.len + N + ps.length + 1 ≤ 8000) :
    ∀ k, k ≤ N + ps.length + 1 → CopW N ps (hangs N ps L) ins vals k (copyC N ps g bys (coneF N (hangs N ps L) k))
  | 0, _ => by
    refine ⟨hfine.1, fun n _ hn => ?_⟩
    show g.val ins ((inL N ps.length bys).getD n 0) = _
    rw [inL_get]
    by_cases h0 : n = 0
    · subst h0; rw [if_neg (by omega), val_zero, nodes_zero]
    · obtain ⟨i, rfl⟩ : ∃ i, n = i + 1 := ⟨n - 1, by omega⟩
      rw [if_pos ⟨by omega, by omega⟩, Nat.add_sub_cancel, nodes_in _ _ _ _ (by omega), hv i (by omega)]
  | k + 1, hk => by
    have ih := copW_at hok hL hfine hb hv hlen k (by omega)
    have hcl := coneF_len N (hangs N ps L) k
    have hI := CopI.at (N := N) (ps := ps) hb (coneF N (hangs N ps L) k) (by omega) _ (Nat.le_refl _)
    rw [List.take_length] at hI
    rw [coneF_succ]
    by_cases h : (hangs N ps L k && decide (N < k)) = true
    · rw [if_pos h, copyC_snoc]
      rw [Bool.and_eq_true, decide_eq_true_eq] at h
      obtain ⟨hf, hN⟩ := h
      obtain ⟨j, rfl⟩ : ∃ j, k = N + 1 + j := ⟨k - N - 1, by omega⟩
      have hj : j < ps.length := by omega
      have hx := okx (hok j hj)
      obtain ⟨c1, c2⟩ := hangs_closed hok hL j hf
      generalize copyC N ps g bys (coneF N (hangs N ps L) (N + 1 + j)) = s at *
      obtain ⟨g1, t⟩ := s
      unfold stepC
      rw [show (((N + 1 + j : Nat) : Int)).toNat = N + 1 + j by omega, show N + 1 + j - N - 1 = j by omega]
      have hng := nodes_gate hok vals j hj
      generalize ps.getD j (0, 0) = x at *
      have e1 := ren_worth (v := nodesV N ps vals) hI.lit x.1 (ih.val _ c1 (by omega))
      have e2 := ren_worth (v := nodesV N ps vals) hI.lit x.2 (ih.val _ c2 (by omega))
      have hl1 := hI.len
      have m := andG_mk (g := g1) ⟨ih.ok, hI.bad.trans hfine.2⟩ (renL t x.1) (renL t x.2) (renL_isB hI.lit _) (renL_isB hI.lit _) (by simp only at hl1; omega)
      simp only at e1 e2
      refine ⟨m.ok, fun n hn hnk => ?_⟩
      show (andG g1 (renL t x.1) (renL t x.2)).1.val ins ((t.set (N + 1 + j) (andG g1 (renL t x.1) (renL t x.2)).2).getD n 0) = _
      rw [getD_setI]
      have hby := hI.by_
      simp only at hby
      by_cases e : N + 1 + j = n
      · subst e
        rw [if_pos ⟨rfl, by omega⟩, m.val, e1, e2, hng]
      · rw [if_neg (fun hh => e hh.1), m.ext.val ins _ (hI.lit n)]
        exact ih.val n hn (by omega)
    · rw [if_neg h]
      refine ⟨ih.ok, fun n hn hnk => ?_⟩
      by_cases e : n = k
      · subst e
        refine ih.val n hn (.inl ?_)
        rw [hn] at h
        simp at h
        exact h
      · exact ih.val n hn (by omega)
theorem copy_worth {N : Nat} {ps : List (Int × Int)} {g : Gr} {bys : List Int} {ins vals : List Bool} {l : Int} (hok : ∀ k, k < ps.length → okP N k (ps.getD k (0, 0)) = true) (h0 : 0 ≤ l) (hl : l / 2 ≤ ((N + ps.length : Nat) : Int)) (hfine : g.Fine) (hb : ∀ b ∈ bys, g.isB b = true) (hv : ∀ i, i < N → vals.getD i false = g.val ins (bys.getD i 0)) (hlen : g.len + N + ps.length + 1 ≤ 8000) :
    (copyV N ps g bys l).1.Fine ∧ (copyV N ps g bys l).1.isB (copyV N ps g bys l).2 = true ∧ (copyV N ps g bys l).1.val ins (copyV N ps g bys l).2 = worthV (nodesV N ps vals) l ∧ (copyV N ps g bys l).1.len ≤ 8000 ∧ (copyV N ps g bys l).1.n = g.n := by
  have hL : (l / 2).toNat ≤ N + ps.length := by omega
  have h := copW_at (L := (l / 2).toNat) hok hL hfine hb hv hlen ((l / 2).toNat + 1) (by omega)
  have hcl := coneF_len N (hangs N ps (l / 2).toNat) ((l / 2).toNat + 1)
  have hI := CopI.at (N := N) (ps := ps) hb (coneL N ps (l / 2).toNat) (by unfold coneL; omega) _ (Nat.le_refl _)
  rw [List.take_length] at hI
  unfold copyV
  rw [show coneF N (hangs N ps (l / 2).toNat) ((l / 2).toNat + 1) = coneL N ps (l / 2).toNat from rfl] at h hcl
  have hln := hI.len
  refine ⟨⟨h.ok, hI.bad.trans hfine.2⟩, renL_isB hI.lit _, ren_worth hI.lit l (h.val _ (hangs_self _ _ _) (.inr (Nat.lt_succ_self _))), (by show (copyC N ps g bys (coneL N ps (l / 2).toNat)).1.len ≤ 8000; omega), hI.ext.1⟩
theorem fine_right {g : Gr} (hf : g.Fine) (hl : g.len ≤ 8000) (o : Int) (ho : g.isB o = true) : checkC (g.n : Int) g.ands [o] = 0 := by
  refine mk_right (by unfold Gr.len at hl; omega) hf.1 (fun x hx => ?_)
  rw [List.mem_singleton] at hx
  subst hx
  rw [okO_iff]
  exact (isB_iff _ _).1 ho
end Go.Proofs.YtdmhjpofinnpmaaDoor

namespace Go.Proofs.YtdmhjpofinnpmaaDoor
open Go.RowKit

theorem mod12_isB (y : Int) : (⟨5, [], 0⟩ : Gr).isB (y % 12) = true := by
  rw [isB_iff]
  unfold Gr.len
  simp only [List.length_nil]
  omega
theorem val5 (ins : List Bool) (kk : Int) (h0 : 0 ≤ kk) (h1 : kk < 12) : (⟨5, [], 0⟩ : Gr).val ins kk = ((if kk / 2 = 0 then false else ins.getD ((kk / 2).toNat - 1) false) != oddB kk) := by
  unfold Gr.val worthV
  simp only
  by_cases h : kk / 2 = 0
  · rw [if_pos h, h]; rw [show ((0 : Int)).toNat = 0 from rfl, nodes_zero]
  · rw [if_neg h]
    have e : (kk / 2).toNat = ((kk / 2).toNat - 1) + 1 := by omega
    rw [e, nodes_in _ _ _ _ (by omega)]
    rfl
theorem dis_ne {u z : Value} (h : ∀ q, u.ownBlock = some q → z.ownBlock ≠ some q) : z.ownBlock = none ∨ z.ownBlock ≠ u.ownBlock := by
  cases hz : z.ownBlock with
  | none => exact .inl rfl
  | some q => exact .inr fun e => h q e.symm hz
theorem dis_ne2 {u z : Value} (h : ∀ q, u.ownBlock = some q → z.ownBlock ≠ some q) : u.ownBlock = none ∨ u.ownBlock ≠ z.ownBlock := by
  cases hu : u.ownBlock with
  | none => exact .inl rfl
  | some q => exact .inr fun e => h q hu e.symm
theorem dis_app {B : Nat} {wr w' : World} {u u' z : Value} (hap : App B wr w' u u') (h : ∀ q, u.ownBlock = some q → z.ownBlock ≠ some q) (hz : ∀ q, z.ownBlock = some q → q < wr.heap.size) : ∀ q, u'.ownBlock = some q → z.ownBlock ≠ some q := by
  intro q hq hzq
  rcases hap.blk with e | ⟨g, e, hg⟩
  · exact h q (e ▸ hq) hzq
  · rw [e] at hq
    injection hq with hq
    have := hz q hzq
    omega
theorem dis_app2 {B : Nat} {wr w' : World} {u z z' : Value} (hap : App B wr w' z z') (h : ∀ q, u.ownBlock = some q → z.ownBlock ≠ some q) (hu : ∀ q, u.ownBlock = some q → q < wr.heap.size) : ∀ q, u.ownBlock = some q → z'.ownBlock ≠ some q := by
  intro q hq hzq
  rcases hap.blk with e | ⟨g, e, hg⟩
  · exact h q hq (e ▸ hzq)
  · rw [e] at hzq
    injection hzq with hzq
    have := hu q hq
    omega
theorem map_take_succ {α β : Type} (f : α → β) (xs : List α) (d : α) (k : Nat) (h : k < xs.length) : (xs.take (k + 1)).map f = (xs.take k).map f ++ [f (xs.getD k d)] := by
  rw [List.take_succ_eq_append_getElem h, List.map_append]
  simp [List.getD, h]

set_option maxRecDepth 8000 in
set_option maxHeartbeats 4000000 in
theorem lawCp_out (A : Nat → Addr) (a2 : Option Addr) (c2 m2 : Nat) (lit n : Int) (a3 : Option Addr) (c3 m3 : Nat) (w : World) (hS : Sents2 w A) (ho : 80 < m2 ∨ m3 < 8) :
    Calls Tryd.prog 5 #[.slice a2 m2 c2, .int .i64 lit, .int .i64 n, .slice a3 m3 c3] w fun e w' => e = .returned (.bool true) ∧ Below w.heap.size w w' := by
  have HF := Lib.hid (first10_any A w hS)
  clear hS
  by_cases d1 : 80 < m2
  · have d1' : decide (80 < m2) = true := decide_eq_true d1
    clear ho
    go_enter Tryd.func5, Tryd.ntmps5
    go_wp2_with fail
    refine HF.out.mono ?_
    rintro e w1 ⟨rfl, hb1⟩
    go_wp2_with fail
    go_ret
    exact ⟨rfl, hb1⟩
  · have d1' : decide (80 < m2) = false := decide_eq_false d1
    have d2 : m3 < 8 := by omega
    have d2' : decide (m3 < 8) = true := decide_eq_true d2
    clear ho
    go_enter Tryd.func5, Tryd.ntmps5
    go_wp2_with fail
    refine HF.out.mono ?_
    rintro e w1 ⟨rfl, hb1⟩
    go_wp2_with fail
    go_ret
    exact ⟨rfl, hb1⟩

set_option maxRecDepth 8000 in
set_option maxHeartbeats 8000000 in
theorem lawCp_any (A : Nat → Addr) (a2 : Option Addr) (c2 : Nat) (ls : List Int) (lit n : Int) (a3 : Option Addr) (c3 : Nat) (ts : List Int) (w : World) (hS : Sents2 w A) (hl : RowAt w a2 c2 ls) (hlb : ∀ y ∈ ls, in64 y) (hlit : in64 lit) (hn : in64 n) (ht : RowAt w a3 c3 ts) (htb : ∀ y ∈ ts, in64 y) :
    Calls Tryd.prog 5 #[.slice a2 ls.length c2, .int .i64 lit, .int .i64 n, .slice a3 ts.length c3] w fun e w' => e = .returned (.bool true) ∧ Below w.heap.size w w' := by
  by_cases hout : 80 < ls.length ∨ ts.length < 8
  · exact lawCp_out A a2 c2 ls.length lit n a3 c3 ts.length w hS hout
  have d1 : decide (80 < ls.length) = false := decide_eq_false fun h => hout (.inl h)
  have d2 : decide (ts.length < 8) = false := decide_eq_false fun h => hout (.inr h)
  have e1 : ¬ 80 < ls.length := fun h => hout (.inl h)
  have e2 : ¬ ts.length < 8 := fun h => hout (.inr h)
  clear hout
  have HF := Lib.hid (first10_any A w hS)
  have HS := Lib.hid (fun W (hW : Below w.heap.size w W) => hS.keep hW)
  have HMK := Lib.hid (fun W (hW : Below w.heap.size w W) => mkc_any 8 (.slice a2 ls.length c2) (.slice none 0 0) ls [] W ⟨_, _, rfl, hl.keep hW⟩ (Row.nil _) (by omega) (by omega) (by simp) hlb (by simp))
  have HVAL := Lib.hid (fun W => values_any n 5 W hn.1 hn.2 (by omega))
  have HL80 : Hid (ls.length ≤ 80) := by unfold Hid; omega
  have HT := Lib.hid (fun W (hW : Below w.heap.size w W) => ht.keep hW)
  have HTB : Hid (∀ k, k < ts.length → in64 (ts.getD k 0)) := fun k hk => htb _ (by simp [List.getD, hk])
  have HNEW := Lib.hid (fun W => gnew_any A 5 W (by omega) (by omega))
  clear hS hl hlb hn ht htb
  generalize ls.length = m2 at *
  generalize hm3 : ts.length = m3 at *
  have HM3 := Lib.hid hm3
  clear hm3
  go_enter Tryd.func5, Tryd.ntmps5
  go_wp2_with fail
  refine HF.out.mono ?_
  rintro e w1 ⟨rfl, hb1⟩
  have HM := Lib.hid (HMK.out _ hb1)
  have HB1 := Lib.hid hb1
  clear hb1 HF HMK
  rw [show ((8 : Nat) : Int) = 8 from rfl] at HM
  go_wp2_with fail
  refine HM.out.mono ?_
  rintro e w5 ⟨⟨u', v', ps', os', rfl, hu', hv', hck, hpl, hol, hpb, hob⟩, hb5⟩
  have HB5 := Lib.hid (HB1.out.trans (hb5.mono HB1.out.size))
  clear hb5 HM HB1
  have HU := Lib.hid (fun W (hW : Below w5.heap.size w5 W) => hu'.keep hW)
  have HV := Lib.hid (fun W (hW : Below w5.heap.size w5 W) => hv'.keep hW)
  have HCK := Lib.hid hck
  have HOB := Lib.hid hob
  have HOL := Lib.hid hol
  obtain ⟨hnm, hokp, hoko⟩ := check_zero8 hck
  have HOKP := Lib.hid hokp
  obtain ⟨au5, cu5, rfl, hu1, hu2, hu3⟩ := hu'
  obtain ⟨av5, cv5, rfl, _⟩ := hv'
  unfold maxLen at hu2
  have HC5 := Lib.hid (CV.new w5 (8 : Int) (.slice au5 ps'.length cu5) (.slice av5 os'.length cv5) 26)
  have HA5 : Hid (Below w5.heap.size w5 (w5.alloc (.cells #[.int .i64 8, .slice au5 ps'.length cu5, .slice av5 os'.length cv5] 26))) := (Below.refl _ _).alloc (Nat.le_refl _) _
  have hm80 : ps'.length ≤ 80 := Nat.le_trans hpl HL80.out
  have NL := Lib.hid (fun W => number_any lit (2 * (8 + (ps'.length : Int)) + 2) W (by omega) (by omega) hlit.1 hlit.2)
  have hl0 := Int.emod_nonneg lit (show 2 * (8 + (ps'.length : Int)) + 2 ≠ 0 by omega)
  have hl1 := Int.emod_lt_of_pos lit (show (0 : Int) < 2 * (8 + (ps'.length : Int)) + 2 by omega)
  generalize lit % (2 * (8 + (ps'.length : Int)) + 2) = l at *
  have HK1 := Lib.hid (check_outs (os' := [l]) hck (fun o ho => by rw [List.mem_singleton] at ho; subst ho; rw [okO_iff]; omega))
  have HLL : Hid (l / 2 ≤ ((8 + ps'.length : Nat) : Int)) := by unfold Hid; omega
  clear hck hokp hoko hpb hob hu3 hol
  unfold circV
  rw [show ((8 : Nat) : Int) = 8 from rfl]
  generalize hm6 : os'.length = m6 at *
  have HM6 := Lib.hid hm6
  clear hm6
  generalize hm5 : ps'.length = m5 at *
  have HM5 := Lib.hid hm5
  clear hm5 hpl
  obtain ⟨z0, z1, z2, zf, zl⟩ := HC5.out
  go_wp2_with fail
  generalize hw6 : w5.alloc (.cells #[.int .i64 8, .slice au5 m5 cu5, .slice av5 m6 cv5] 26) = w6 at *
  refine (NL.out _).mono ?_
  rintro e w' ⟨rfl, rfl⟩
  clear NL hw6 z0 z1 z2 zf zl
  go_wp2_with fail
  refine (HNEW.out _).mono ?_
  rintro e w7 ⟨⟨gv, S, rfl, hG, hSn⟩, hb7⟩
  obtain ⟨gp, rfl⟩ : ∃ p, gv = .pointer (some ⟨p, 0, none⟩) := by obtain ⟨p, m, u, N, D, h⟩ := hG; exact ⟨p, h.val⟩
  rw [show newG 5 = ⟨5, [], 0⟩ from rfl] at hG
  have HSN := Lib.hid hSn
  have HG7 := Lib.hid hG
  have HC7 := Lib.hid (HC5.out.keep hb7)
  have HA7 := Lib.hid (HA5.out.trans (hb7.mono HA5.out.size))
  have HS6 : Hid (w5.heap.size < w6.heap.size) := HC5.out.lt
  have HB67 := Lib.hid hb7
  clear hG hSn hb7 HNEW HC5 HA5
  go_wp2_with fail
  refine (HVAL.out _).mono ?_
  rintro e w8 ⟨zv, ins, rfl, hz, hb8⟩
  have hil : ins.length = 5 := by have := hz.1; simpa using this
  obtain ⟨gi, ci, rfl, hgi, hgl, hci1, hci2⟩ := own_some hz (by omega)
  have HI8 := Lib.hid hz
  have HIL := Lib.hid hil
  have HG8 := Lib.hid (HG7.out.below hb8)
  have HC8 := Lib.hid (HC7.out.keep hb8)
  have HA8 := Lib.hid (HA7.out.trans (hb8.mono HA7.out.size))
  have HB68 := Lib.hid (HB67.out.trans (hb8.mono HB67.out.size))
  have HS78 : Hid (w7.heap.size ≤ w8.heap.size) := hb8.size
  have HGS7 := Lib.hid HG7.out
  have HS67 : Hid (w6.heap.size ≤ w7.heap.size) := HB67.out.size
  clear hz hb8 hil HVAL HG7 HC7 HA7 HB67
  -- the two rows
  obtain ⟨bl, hbl⟩ : ∃ bl : List Int, bl = (ts.take 8).map (· % 12) := ⟨_, rfl⟩
  have HBLL : Hid (bl.length = 8) := by unfold Hid; rw [hbl, List.length_map, List.length_take, HM3.out]; omega
  have HBG : Hid (∀ k, k < 8 → bl.getD k 0 = ts.getD k 0 % 12) := fun k hk => by
    rw [hbl]; simp [List.getD, hk, show k < ts.length by rw [HM3.out]; omega]
  have HBS : Hid (∀ k, k < 8 → (bl.take (k + 1)).map (Value.int .i64) = (bl.take k).map (Value.int .i64) ++ [.int .i64 (ts.getD k 0 % 12)]) := fun k hk => by
    rw [map_take_succ _ _ 0 k (by rw [HBLL.out]; exact hk), HBG.out k hk]
  have HVS : Hid (∀ k, k < 8 → ((bl.take (k + 1)).map ((⟨5, [], 0⟩ : Gr).val ins)).map Value.bool = ((bl.take k).map ((⟨5, [], 0⟩ : Gr).val ins)).map Value.bool ++ [.bool ((⟨5, [], 0⟩ : Gr).val ins (ts.getD k 0 % 12))]) := fun k hk => by
    rw [map_take_succ _ _ 0 k (by rw [HBLL.out]; exact hk), HBG.out k hk, List.map_append]; rfl
  have HBI : Hid (∀ b ∈ bl, (⟨5, [], 0⟩ : Gr).isB b = true) := fun b hb => by
    rw [hbl] at hb
    obtain ⟨y, _, rfl⟩ := List.mem_map.1 hb
    exact mod12_isB y
  have HV5 := Lib.hid (fun kk h0 h1 => val5 ins kk h0 h1)
  have HBE : Hid (bl.take 8 = bl) := by unfold Hid; rw [← HBLL.out]; exact List.take_length
  clear hbl
  have HBT : Hid (∀ W, Below w8.heap.size w8 W → RowAt W a3 c3 ts) := fun W hW => HT.out W (HB5.out.trans ((HA8.out.trans (hW.mono HA8.out.size)).mono HB5.out.size))
  have HCI8 := Lib.hid (CelG.of_own (mk := Value.bool) (d := false) HI8.out)
  go_wp2_with fail
  go_loopw [15, 13, 14, 16, 17] (fun i u z _ _ wr => ∃ k : Nat, k ≤ 8 ∧ i = .int .i64 (k : Int) ∧ wr.ownsRow w8.heap.size 3 1 u k ((bl.take k).map (Value.int .i64)) ∧ wr.ownsRow w8.heap.size 4 1 z k (((bl.take k).map ((⟨5, [], 0⟩ : Gr).val ins)).map Value.bool) ∧ (∀ q, u.ownBlock = some q → z.ownBlock ≠ some q) ∧ Below w8.heap.size w8 wr) (fun i _ _ _ _ _ => 8 - (intOf i).toNat)
  case atStart => exact ⟨0, Nat.zero_le _, rfl, World.ownsRow_nil _ _ _ _, World.ownsRow_nil _ _ _ _, (by intro q h; simp [Value.ownBlock] at h), Below.refl _ _⟩
  case round =>
    obtain ⟨k, hk, rfl, hu, hz, hd, hbr⟩ := hrel
    obtain ⟨ab, cb, rfl, _, hcb⟩ := own_shape hu
    obtain ⟨az, cz, rfl, _, hcz⟩ := own_shape hz
    unfold maxLen at hcb hcz
    have hsz := hbr.size
    by_cases hlt : k < 8
    · obtain ⟨_, _, ht3⟩ := HBT.out wr hbr
      obtain ⟨b, off, ha, hbl, hcl⟩ := ht3.resolve_left (by rw [HM3.out]; omega)
      subst ha
      have y0 := hcl k (by rw [HM3.out]; omega)
      have hy64 := HTB.out k (by omega)
      have HS1 := Lib.hid (HBS.out k hlt)
      have HS2 := Lib.hid (HVS.out k hlt)
      have HNN := Lib.hid (number_any (ts.getD k 0) 12 wr (by omega) (by omega) hy64.1 hy64.2)
      have hk0 := Int.emod_nonneg (ts.getD k 0) (show (12 : Int) ≠ 0 by omega)
      have hk1 := Int.emod_lt_of_pos (ts.getD k 0) (show (0 : Int) < 12 by omega)
      have HVV := Lib.hid (HV5.out _ hk0 hk1)
      clear hcl ht3 hy64
      generalize ts.getD k 0 % 12 = kk at *
      generalize ts.getD k 0 = yy at *
      have HOZ := Lib.hid hz
      have HDD := Lib.hid hd
      have HBR := Lib.hid hbr
      have HCE := Lib.hid (HCI8.out.keep hbr)
      clear hz hd hbr
      obtain ⟨J, hJ⟩ : ∃ J : Nat, kk / 2 = (J : Int) := ⟨(kk / 2).toNat, by omega⟩
      have HOD := Lib.hid (fun x => odd_val x kk hk0 (by omega))
      have hJ6 : J < 6 := by omega
      have HA9 : Hid (∀ u' w9, w9.ownsRow w8.heap.size 3 1 u' (k + 1) ((bl.take k ++ [kk]).map (Value.int .i64)) → App w8.heap.size wr w9 (.slice ab k cb) u' → w9.ownsRow w8.heap.size 4 1 (.slice az k cz) k (((bl.take k).map ((⟨5, [], 0⟩ : Gr).val ins)).map Value.bool) ∧ (∀ q, u'.ownBlock = some q → (Value.slice az k cz).ownBlock ≠ some q) ∧ Below w8.heap.size w8 w9 ∧ w8.heap.size ≤ w9.heap.size ∧ ∀ j, j < 5 → w9.cell? ⟨gi, j, none⟩ = some (.bool (ins.getD j false))) := fun u' w9 hown hap =>
        ⟨hap.own HOZ.out (dis_ne HDD.out), dis_app hap HDD.out (fun q hq => (HOZ.out.lt q hq).2), HBR.out.trans hap.below, Nat.le_trans hsz hap.below.size, fun j hj => (HCI8.out.keep (HBR.out.trans hap.below)).cells j (by rw [HIL.out]; exact hj)⟩
      rcases Nat.eq_zero_or_pos J with hJ0 | hJ0
      · subst hJ0
        have HRAW : Hid ((false != (bits .and .i64 kk 1 == 1)) = (⟨5, [], 0⟩ : Gr).val ins kk) := by unfold Hid; rw [HOD.out, HVV.out]; rw [hJ]; rfl
        clear HOD HVV
        generalize (⟨5, [], 0⟩ : Gr).val ins kk = vv at *
        go_wp2_with fail
        refine HNN.out.mono ?_
        rintro e w' ⟨rfl, rfl⟩
        go_wp2_with (first
          | (at_builtin; refine wpList_app1 rfl (.tmp 57) (.tmp 59) rfl wr w8.heap.size _ k (bl.take k) kk hu hsz (by omega) rfl rfl ?_; intro u' w9 hown9 hap9; have HF9 := Lib.hid (HA9.out u' w9 hown9 hap9); have hz9 := HF9.out.1; have hsz9 := HF9.out.2.2.2.1; have x9 := HF9.out.2.2.2.2; have HAP := Lib.hid hap9; have HOW9 := Lib.hid hown9; obtain ⟨a9, c9, rfl, _, _⟩ := own_shape hown9; clear hown9 hap9)
          | (at_builtin; refine wpList_app1G Value.bool 28 4 (.bool false) 1 Tryd.underlying28 infoBool9 rfl (by decide) rfl (.tmp 72) (.tmp 78) rfl w9 w8.heap.size _ k ((bl.take k).map ((⟨5, [], 0⟩ : Gr).val ins)) _ rfl hz9 hsz9 (by omega) rfl rfl ?_; intro z' w10 hown10 hap10))
        go_roundw
        case rel =>
          refine ⟨k + 1, by omega, by go_num, hap10.own (by rw [HS1.out]; have h := HOW9.out; rw [List.map_append] at h; exact h) (dis_ne2 HF9.out.2.1), ?_, dis_app2 hap10 HF9.out.2.1 (fun q hq => (HOW9.out.lt q hq).2), HF9.out.2.2.1.trans hap10.below⟩
          rw [HS2.out, ← HRAW.out]
          have h := hown10
          rw [List.map_append] at h
          first
            | (simpa using h)
            | (have e : ∀ x b : Bool, (!x == b) = (x != b) := by decide
               simp only [List.map_cons, List.map_nil, e] at h
               exact h)
        case measure => simp [intOf]; omega
      · obtain ⟨j, rfl⟩ : ∃ j, J = j + 1 := ⟨J - 1, by omega⟩
        have hJ' : kk / 2 = (j : Int) + 1 := by omega
        have hj5 : j < 5 := by omega
        clear hJ hJ0
        have hjp : decide ((0 : Int) < (j : Int) + 1) = true := decide_eq_true (by omega)
        have HRX : Hid ((if kk / 2 = 0 then false else ins.getD ((kk / 2).toNat - 1) false) = ins.getD j false) := by unfold Hid; rw [if_neg (by omega), show (kk / 2).toNat - 1 = j by omega]
        have HRAW : Hid ((ins.getD j false != (bits .and .i64 kk 1 == 1)) = (⟨5, [], 0⟩ : Gr).val ins kk) := by unfold Hid; rw [HOD.out, HVV.out]; rw [HRX.out]
        clear HOD HVV HRX
        generalize (⟨5, [], 0⟩ : Gr).val ins kk = vv at *
        go_wp2_with fail
        refine HNN.out.mono ?_
        rintro e w' ⟨rfl, rfl⟩
        go_wp2_with (first
          | (at_builtin; refine wpList_app1 rfl (.tmp 57) (.tmp 59) rfl wr w8.heap.size _ k (bl.take k) kk hu hsz (by omega) rfl rfl ?_; intro u' w9 hown9 hap9; have HF9 := Lib.hid (HA9.out u' w9 hown9 hap9); have hz9 := HF9.out.1; have hsz9 := HF9.out.2.2.2.1; have x9 := HF9.out.2.2.2.2 j hj5; have HAP := Lib.hid hap9; have HOW9 := Lib.hid hown9; obtain ⟨a9, c9, rfl, _, _⟩ := own_shape hown9; clear hown9 hap9)
          | (at_builtin; refine wpList_app1G Value.bool 28 4 (.bool false) 1 Tryd.underlying28 infoBool9 rfl (by decide) rfl (.tmp 72) (.tmp 78) rfl w9 w8.heap.size _ k ((bl.take k).map ((⟨5, [], 0⟩ : Gr).val ins)) _ rfl hz9 hsz9 (by omega) rfl rfl ?_; intro z' w10 hown10 hap10))
        go_roundw
        case rel =>
          refine ⟨k + 1, by omega, by go_num, hap10.own (by rw [HS1.out]; have h := HOW9.out; rw [List.map_append] at h; exact h) (dis_ne2 HF9.out.2.1), ?_, dis_app2 hap10 HF9.out.2.1 (fun q hq => (HOW9.out.lt q hq).2), HF9.out.2.2.1.trans hap10.below⟩
          rw [HS2.out, ← HRAW.out]
          have h := hown10
          rw [List.map_append] at h
          first
            | (simpa using h)
            | (have e : ∀ x b : Bool, (!x == b) = (x != b) := by decide
               simp only [List.map_cons, List.map_nil, e] at h
               exact h)
        case measure => simp [intOf]; omega
    · have hk8 : k = 8 := by omega
      subst hk8
      rw [HBE.out] at hu hz
      obtain ⟨HW1, HW2⟩ := copy_worth (N := 8) (ps := ps') (g := ⟨5, [], 0⟩) (bys := bl) (ins := ins) (vals := bl.map ((⟨5, [], 0⟩ : Gr).val ins)) (l := l) (fun k hk => HOKP.out k (by have := HM5.out; omega)) hl0 (by rw [HM5.out]; exact HLL.out) ⟨fun k hk => absurd hk (Nat.not_lt_zero _), rfl⟩ HBI.out (fun i hi => by
        have h8 := HBLL.out
        simp [List.getD, show i < bl.length by omega]) (by show 5 + 0 + 8 + ps'.length + 1 ≤ 8000; rw [HM5.out]; omega)
      obtain ⟨HW2, HW3, HW4, HW5⟩ := HW2
      have HFI := Lib.hid HW1
      have HFB := Lib.hid HW2
      have HFV := Lib.hid HW3
      have HFL := Lib.hid HW4
      have HFN := Lib.hid HW5
      have HRI := Lib.hid (fine_right HW1 HW4 _ HW2)
      clear HW1 HW2 HW3 HW4 HW5 d1 d2
      have HB8 := Lib.hid hbr
      have HZ := Lib.hid hz
      have hnew : ∀ q ∈ S, w6.heap.size ≤ q ∧ q < w8.heap.size := fun q hq => ⟨HSN.out q hq, (grKind A _).lt HG8.out q hq⟩
      have HNW := Lib.hid hnew
      have HGR := Lib.hid (HG8.out.below hbr)
      have HCR := Lib.hid (HC8.out.keep hbr)
      have HAR := Lib.hid (HA8.out.trans (hbr.mono HA8.out.size))
      have HB6R := Lib.hid (HB68.out.trans (hbr.mono HB68.out.size))
      have HIR := Lib.hid (own_keep HI8.out hbr)
      have HCHB := Lib.hid (fun W (hW : Chg S wr W) => hW.below HB6R.out HB6R.out.size (fun i hi => (HNW.out i hi).1))
      have HC5W := Lib.hid (fun W (hW : Chg S wr W) => hW.below HAR.out (Nat.le_of_lt (Nat.lt_of_lt_of_le HS6.out HB6R.out.size)) (fun i hi => Nat.le_trans (Nat.le_of_lt HS6.out) (HNW.out i hi).1))
      have HCOP := Lib.hid (lcopy_any A 8 (.slice au5 m5 cu5) (.slice av5 m6 cv5) (.pointer (some ⟨gp, 0, none⟩)) (.slice ab 8 cb) ps' os' bl l (l / 2).toNat wr S ⟨5, [], 0⟩ HGR.out (fun W hW => ⟨HS.out W (HB5.out.trans ((HC5W.out W hW).mono HB5.out.size)), HU.out W (HC5W.out W hW), HV.out W (HC5W.out W hW), own_row (own_chg hu hW (fun k hk hm => by have h1 := (hu.lt k hk).1; have h2 := (HNW.out k hm).2; omega))⟩) (by rw [HM6.out]; have := HOL.out; simp at this; omega) HOB.out HCK.out hl0 (by omega) (by rw [HM5.out]; have := HLL.out; omega) HBI.out (by show 5 + 0 + 8 + ps'.length + 1 ≤ 8000; rw [HM5.out]; omega) (by rw [HBLL.out]; omega))
      unfold circV at HCOP
      rw [show ((8 : Nat) : Int) = 8 from rfl] at HCOP
      obtain ⟨z0, z1, z2, zf, zl⟩ := HCR.out
      have HUO := Lib.hid hu
      clear hu hz hd hbr hnew HCI8 HBT
      go_wp2_with fail
      refine HCOP.out.mono ?_
      rintro e w11 ⟨rfl, ⟨S', hG', hF'⟩, hC'⟩
      have HG11 := Lib.hid hG'
      have HB5N : Hid (w5.heap.size ∉ S) := fun hm => by have := (HNW.out _ hm).1; have := HS6.out; omega
      have HB5N' : Hid (w5.heap.size ∉ S') := fun hm => (hF' _ hm).elim HB5N.out (fun h => absurd HCR.out.lt (Nat.not_lt.2 h))
      have HC11 : Hid (CV w11 w5.heap.size 8 (.slice au5 m5 cu5) (.slice av5 m6 cv5)) := ⟨(hC'.cell zl HB5N.out).trans z0, (hC'.cell zl HB5N.out).trans z1, (hC'.cell zl HB5N.out).trans z2, fun k => (cell_frozen hC' zl HB5N.out k).trans (zf k), Nat.lt_of_lt_of_le zl hC'.size⟩
      have HA11 := Lib.hid (HC5W.out _ hC')
      have HI11 := Lib.hid (own_chg HIR.out hC' (fun k hk hm => by have h1 := (HIR.out.lt k hk).1; have h0 := HSN.out k hm; have h2 := (grKind A _).lt HGS7.out k hm; omega))
      have HZ11 := Lib.hid (own_chg HZ.out hC' (fun k hk hm => by have h1 := (HZ.out.lt k hk).1; have h2 := (HNW.out k hm).2; omega))
      clear z0 z1 z2 zf zl hG' hF' hC' HCOP
      obtain ⟨z0, z1, z2, zf, zl⟩ := HC11.out
      have HQ12 := Lib.hid (cs_outs HC11.out HA11.out [l] 1 rfl (by omega))
      rw [show (([l].map (Value.int .i64)).toArray) = #[Value.int .i64 l] from rfl] at HQ12
      have HCH12 : Hid (Chg [w5.heap.size] w11 ((w11.setCell ⟨w5.heap.size, 2, none⟩ (.slice (some ⟨w11.heap.size, 0, none⟩) 1 1)).alloc (.cells #[.int .i64 l] 3))) := ((Chg.refl _ _).setCell (.inl (by simp)) _).alloc _
      have HG12 := Lib.hid ((grKind A (.pointer (some ⟨gp, 0, none⟩))).keep HG11.out HCH12.out (fun i hi hm => by rw [List.mem_singleton] at hm; subst hm; exact HB5N'.out hi))
      have HI12 := Lib.hid (own_chg HI11.out HCH12.out (fun k hk hm => by rw [List.mem_singleton] at hm; have := (HI11.out.lt k hk).1; have := HS6.out; have := HS67.out; omega))
      have HZ12 := Lib.hid (own_chg HZ11.out HCH12.out (fun k hk hm => by rw [List.mem_singleton] at hm; have := (HZ11.out.lt k hk).1; have := HS6.out; have := HS67.out; have := HS78.out; omega))
      go_wp2_with fail
      generalize (w11.setCell ⟨w5.heap.size, 2, none⟩ (.slice (some ⟨w11.heap.size, 0, none⟩) 1 1)).alloc (.cells #[.int .i64 l] 3) = w12 at *
      have HBL8 : Hid ((bl.map ((⟨5, [], 0⟩ : Gr).val ins)).length = 8) := by unfold Hid; rw [List.length_map]; exact HBLL.out
      have HEA := Lib.hid (leval_any A 8 (.slice au5 m5 cu5) (.slice (some ⟨w11.heap.size, 0, none⟩) 1 1) (.slice az 8 cz) ps' [l] (bl.map ((⟨5, [], 0⟩ : Gr).val ins)) w12 (HS.out _ (HB5.out.trans (HQ12.out.bel.mono HB5.out.size))) (HU.out _ HQ12.out.bel) (own_row HQ12.out.own) (by simp) (check_in64 HK1.out) (own_rowG (mk := Value.bool) (d := false) HZ12.out) (by rw [HBL8.out]; omega) HK1.out)
      rw [show evalV 8 ps' [l] (bl.map ((⟨5, [], 0⟩ : Gr).val ins)) = [worthV (nodesV 8 ps' (bl.map ((⟨5, [], 0⟩ : Gr).val ins))) l] from rfl, ← HFV.out] at HEA
      unfold circV at HEA
      rw [show ((8 : Nat) : Int) = 8 from rfl] at HEA
      clear HFV z0 z1 z2 zf zl
      generalize copyV 8 ps' ⟨5, [], 0⟩ bl l = r at *
      obtain ⟨gr, x⟩ := r
      simp only at HFI HFB HFL HFN HRI HEA HG11 HG12 ⊢
      generalize hva : gr.val ins x = va at *
      have HVA := Lib.hid hva
      clear hva
      refine HEA.out.mono ?_
      rintro e w13 ⟨za, rfl, hza, hb13⟩
      obtain ⟨ga, ca, rfl, hga, hgal, _, _⟩ := own_some hza (by simp)
      have HZA := Lib.hid hza
      have HB13 := Lib.hid (fun W (hW : Below w13.heap.size w13 W) => (show Below w12.heap.size w12 W from hb13.trans (hW.mono hb13.size)))
      have HBF := Lib.hid (fun W (hW : Below w12.heap.size w12 W) => (show Below w.heap.size w W from HB5.out.trans ((HQ12.out.keep hW).bel.mono HB5.out.size)))
      have HLA : Hid (Below w13.heap.size w13 (w13.alloc (.cells #[.int .i64 x] 3))) := (Below.refl _ _).alloc (Nat.le_refl _) _
      have HROX : Hid (Row (w13.alloc (.cells #[.int .i64 x] 3)) (.slice (some ⟨w13.heap.size, 0, none⟩) 1 1) [x]) := row_lit w13 [x] (by simp)
      have HCI := Lib.hid (gcirc_any _ (HG12.out.below (HB13.out _ HLA.out)) _ [x] HROX.out (by simp))
      unfold CirPost circV at HCI
      simp only [List.length_singleton] at HCI ⊢
      clear hza hb13 HEA
      go_wp2_with fail
      generalize w13.alloc (.cells #[.int .i64 x] 3) = w14 at *
      refine HCI.out.mono ?_
      rintro e w15 ⟨⟨u9, v9, rfl, hu9, hv9⟩, hb15⟩
      have HB15 := Lib.hid (HLA.out.trans (hb15.mono HLA.out.size))
      have HEB := Lib.hid (leval_any A gr.n u9 v9 (.slice (some ⟨gi, 0, none⟩) 5 ci) gr.ands [x] ins w15 (HS.out _ (HBF.out _ (HB13.out _ HB15.out))) (own_prow hu9) (own_row hv9) (by simp) (check_in64 HRI.out) (own_rowG (mk := Value.bool) (d := false) (own_keep HI12.out (HB13.out _ HB15.out))) (by rw [HIL.out]; omega) HRI.out)
      rw [show evalV gr.n gr.ands [x] ins = [gr.val ins x] from rfl, HVA.out] at HEB
      unfold circV at HEB
      obtain ⟨a9, c9, rfl, _, _⟩ := row_shape hu9
      obtain ⟨b9, d9, rfl, _, _⟩ := own_shape hv9
      clear hu9 hv9 hb15 HCI HROX
      go_wp2_with fail
      refine HEB.out.mono ?_
      rintro e w16 ⟨zb, rfl, hzb, hb16⟩
      obtain ⟨gb, cb2, rfl, hgb, hgbl, _, _⟩ := own_some hzb (by simp)
      have HB16 := Lib.hid (HB15.out.trans (hb16.mono HB15.out.size))
      have a0 := (own_keep HZA.out HB16.out).cells (g := ga) rfl 0 (.bool va) rfl
      have b0 := hzb.cells (g := gb) rfl 0 (.bool va) rfl
      rw [show (⟨ga, 0, none⟩ : Addr).add 0 = ⟨ga, 0, none⟩ from rfl] at a0
      rw [show (⟨gb, 0, none⟩ : Addr).add 0 = ⟨gb, 0, none⟩ from rfl] at b0
      have HER := Lib.hid (fun t => gerr_any (w16.drewN t) (HG12.out.below (HB13.out _ (below_drewN HB16.out t))))
      rw [HFI.out.2, show errC A 0 = .nilIface from rfl] at HER
      have HEND : Hid (∀ t, Below w.heap.size w (w16.drewN t)) := fun t => HBF.out _ (HB13.out _ (below_drewN HB16.out t))
      have hv : (va == va) = true := by simp
      simp only [List.length_singleton]
      clear hzb hb16 HEB
      go_upto_region 25 with fail
      go_quiet (first | (go_at_call 32; refine (HER.out _).mono ?_; rintro e w' ⟨rfl, rfl⟩; exact ⟨rfl, _, rfl⟩))
      go_wp2_with fail
      go_ret
      exact ⟨rfl, HEND.out _⟩
end Go.Proofs.YtdmhjpofinnpmaaDoor
