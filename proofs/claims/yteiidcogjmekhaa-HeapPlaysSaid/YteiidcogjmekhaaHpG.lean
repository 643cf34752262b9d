/- Contracts of heap's New and Grow. Conditions: the number is a 64-bit int, 60 at most; the heap lies in memory as 'HpS' says. -/
import Derived.Test.YteiidcogjmekhaaHpL
namespace Go.Proofs.Yteiidcogjmekhaa
open Go.RowKit

/-- The program's heap h, behind the pointer v, in the blocks of S. -/
def HpS (w : World) (v : Value) (S : List Nat) (h : Hp) : Prop := ∃ p a b t ca cb ct T D, v = .pointer (some ⟨p, 0, none⟩) ∧ S = [p, a, b, t] ∧ HpAt w p a b t ca cb ct h.ss h.ins (manyH h : Nat) T ∧ TreeOk D h.ss h.ins T ∧ HpW h ∧ h.ss.length ≤ 2 ^ D ∧ 2 ^ D ≤ 128
theorem HpS.lt {w : World} {v : Value} {S : List Nat} {h : Hp} (hh : HpS w v S h) : ∀ i ∈ S, i < w.heap.size := by
  obtain ⟨p, a, b, t, ca, cb, ct, T, D, _, rfl, h1, _⟩ := hh
  exact h1.lt
theorem HpS.keep {w w' : World} {v : Value} {S R : List Nat} {h : Hp} (hh : HpS w v S h) (hc : Chg R w w') (hd : ∀ i ∈ S, i ∉ R) : HpS w' v S h := by
  obtain ⟨p, a, b, t, ca, cb, ct, T, D, e, rfl, h1, h2⟩ := hh
  exact ⟨p, a, b, t, ca, cb, ct, T, D, e, rfl, h1.keep hc hd, h2⟩
theorem HpS.below {w w' : World} {v : Value} {S : List Nat} {h : Hp} (hh : HpS w v S h) (hb : Below w.heap.size w w') : HpS w' v S h := hh.keep (Chg.of_below (S := []) hb) (by simp)
theorem HpS.wf {w : World} {v : Value} {S : List Nat} {h : Hp} (hh : HpS w v S h) : HpW h := by
  obtain ⟨p, a, b, t, ca, cb, ct, T, D, _, _, _, _, h1, _⟩ := hh
  exact h1
/-- What a call leaves. -/
def HPost (w : World) (v : Value) (S : List Nat) (h' : Hp) (r : Value) (e : Ending) (w' : World) : Prop := e = .returned r ∧ (∃ S', HpS w' v S' h' ∧ Fresh w S S') ∧ Chg S w w'

theorem infoBest : (Try.prog.info? 49).map (fun i => (i.zero, i.size, i.bytes)) = some (some (.agg #[.int .i64 0, .int .i64 0]), 2, 16) := by kernel_rfl
theorem infoBoo : (Try.prog.info? 4).map (fun i => (i.zero, i.size, i.bytes)) = some (some (.bool false), 1, 1) := by kernel_rfl
theorem nflat_rep : ∀ n, ((List.replicate n z2).flatMap ncells).length = n * 2 := fun n => by rw [nflat_len, List.length_replicate]
theorem made_best (n : Nat) : (madeCells (Value.agg #[.int .i64 0, .int .i64 0]).cells (n * 2)).toList = (List.replicate n z2).flatMap ncells := by
  apply List.ext_getElem (by rw [nflat_rep]; simp [madeCells])
  intro i h1 h2
  rw [nflat_rep] at h2
  have e1 : (madeCells (Value.agg #[.int .i64 0, .int .i64 0]).cells (n * 2)).toList[i] = .int .i64 0 := by
    simp only [madeCells, Array.toList_map, List.getElem_map]
    have : i % 2 = 0 ∨ i % 2 = 1 := by omega
    simp [Value.cells]
    rcases this with h | h <;> simp [h]
  have e2 := nflat_get (List.replicate n z2) (i / 2) (i % 2) (by rw [List.length_replicate]; omega) (by omega)
  rw [show i / 2 * 2 + i % 2 = i by omega, getD_rep] at e2
  rw [e1]
  have h3 : i < ((List.replicate n z2).flatMap ncells).length := by rw [nflat_rep]; exact h2
  rw [List.getElem?_eq_getElem h3] at e2
  have : i % 2 = 0 ∨ i % 2 = 1 := by omega
  rcases this with h | h
  · rw [h] at e2; exact (Option.some.inj e2).symm
  · rw [h] at e2; exact (Option.some.inj e2).symm
/-- 'make([]best, n)'. -/
theorem wpList_makeT {ops : Array Oper} {rest : List Oper} {o : Oper} {a : Act} {Q : Exit → Act → World → Prop} (hgd : o.guard = none) (l c : Operand) (ho : o.op = Op.makeSlice 44 l c)
    (w : World) (n : Nat) (hl : a.eval l = .int .i64 (n : Int)) (hc : a.eval c = .int .i64 (n : Int)) (hn : n < 100000)
    (h : ∀ w', w'.ownsRow 0 49 2 (.slice (some ⟨w.heap.size, 0, none⟩) (List.replicate n z2).length n) (List.replicate n z2).length ((List.replicate n z2).flatMap ncells) → Below w.heap.size w w' → wpList Try.prog ops Q rest (a.put o.dst (.slice (some ⟨w.heap.size, 0, none⟩) n n)) w') :
    wpList Try.prog ops Q (o :: rest) a w := by
  obtain ⟨i0, hi, hz0, hz1, hz2⟩ := info_parts infoBest
  refine wpList_make_full _ hgd l c 44 ho 0 49 i0 _ 2 Try.underlying44 hi hz0 hz1 _ _ _ _ n hl hc rfl rfl (by rw [hz2]; omega) (by unfold maxLen; omega) (Nat.zero_le _) ?_
  intro w' h1 h2
  rw [made_best] at h1
  refine h w' ?_ ((Below.refl _ w).grown h2 (Nat.le_refl _) fun k hk => by cases hk)
  rw [List.length_replicate]
  exact h1

/-- After the loop of Grow: k variables more. -/
structure GrwI (w : World) (p a0 b0 t ct : Nat) (ss : List Int) (ins : List Bool) (m : Int) (T : List Nd) (k : Nat) (wr : World) : Prop where
  at' : ∃ a b ca cb, HpAt wr p a b t ca cb ct (ss ++ List.replicate k 0) (ins ++ List.replicate k true) (m + (k : Int)) T ∧ (a = a0 ∨ w.heap.size ≤ a) ∧ (b = b0 ∨ w.heap.size ≤ b)
  chg : Chg [p, a0, b0, t] w wr

theorem chg_sub {S T : List Nat} {w w' : World} (h : Chg S w w') (hs : ∀ i ∈ S, i ∈ T) : Chg T w w' := ⟨h.os, h.tape, h.output, h.size, fun i hi hn => h.block i hi (fun hm => hn (hs i hm))⟩
theorem chg_app {w wr w1 : World} {p a0 b0 t x : Nat} {u : Value} {o : Nat} (h : Chg [p, a0, b0, t] w wr) (hc : Chg [x] wr w1) (hx : x = a0 ∨ x = b0 ∨ w.heap.size ≤ x) : Chg [p, a0, b0, t] w (w1.setCell ⟨p, o, none⟩ u) :=
  (h.trans hc (fun i hi => by
    simp at hi
    subst hi
    rcases hx with rfl | rfl | h
    · exact .inl (by simp)
    · exact .inl (by simp)
    · exact .inr h)).setCell (.inl (by simp)) _
theorem leaf_grow {ss : List Int} {ins : List Bool} (hl : ins.length = ss.length) (k v : Nat) (hv : v < ss.length ∨ ss.length + k ≤ v) : leafI (ss ++ List.replicate k 0) (ins ++ List.replicate k true) v = leafI ss ins v := by
  unfold leafI
  rw [getD_grow, getD_grow, hl]
  rcases hv with hv | hv
  · rw [if_pos hv, if_pos hv]
  · rw [if_neg (show ¬ v < ss.length by omega), if_neg (show ¬ v < ss.length + k by omega)]
    simp [List.getD, List.getElem?_eq_none (show ins.length ≤ v by omega)]
theorem count_grow (ins : List Bool) (k : Nat) : (ins ++ List.replicate k true).count true = ins.count true + k := by
  rw [List.count_append, List.count_replicate]; simp

theorem rep_snoc {α : Type} (l : List α) (k : Nat) (x : α) : (l ++ List.replicate k x) ++ [x] = l ++ List.replicate (k + 1) x := by
  rw [List.append_assoc, ← List.replicate_succ']

set_option maxRecDepth 8000 in
set_option maxHeartbeats 4000000 in
theorem hgrow_any {v : Value} {S : List Nat} {h : Hp} (w : World) (hs : HpS w v S h) (n : Int) (h1 : -9223372036854775808 ≤ n) (h2 : n ≤ 60) :
    Calls Try.prog 18 #[v, .int .i64 n] w (HPost w v S (growH h n) (.tuple #[])) := by
  obtain ⟨p, a0, b0, t, ca0, cb0, ct, T, D, rfl, rfl, ha, htr, hw, hD1, hD2⟩ := hs
  have HA := Lib.hid ha
  have c0 := ha.c0
  have hpos := hw.pos
  have htop := hw.top
  have k3 : ¬ 4000 < n := by omega
  have k4 : n < 4000 := by omega
  by_cases hlt : n < (h.ss.length : Int)
  · have HE : Hid (growH h n = h) := by
      unfold Hid growH
      rw [show n.toNat + 1 - h.ss.length = 0 by omega]
      simp
    have HS : Hid (HpS w (.pointer (some ⟨p, 0, none⟩)) [p, a0, b0, t] h) := ⟨p, a0, b0, t, ca0, cb0, ct, T, D, rfl, rfl, ha, htr, hw, hD1, hD2⟩
    clear ha htr hw
    generalize h.ss.length = L at *
    go_enter Try.func18, Try.ntmps18
    go_wp2_with fail
    (try simp only [Exit.inBlock, Exit.then]); refine bodyPost_end (results_none rfl _ _ _) rfl ?_
    exact ⟨rfl, ⟨_, by rw [HE.out]; exact HS.out, Fresh.refl _ _⟩, Chg.refl _ _⟩
  · obtain ⟨l, rfl⟩ := Int.eq_ofNat_of_zero_le (show 0 ≤ n by omega)
    go_enter Try.func18, Try.ntmps18
    go_wp2_with fail
    clear c0
    generalize hL : h.ss.length = L at *
    generalize hM : ((manyH h : Nat) : Int) = M at *
    have HI0 : Hid (GrwI w p a0 b0 t ct h.ss h.ins M T (L - L) w) := ⟨⟨a0, b0, ca0, cb0, by rw [Nat.sub_self]; simpa using ha, .inl rfl, .inl rfl⟩, Chg.refl _ _⟩
    have HLT := Lib.hid ha.lt
    have HTR := Lib.hid htr
    have HWF := Lib.hid hw
    have HWL : Hid (h.ins.length = h.ss.length) := hw.len
    have HL := Lib.hid hL
    have hMb : 0 ≤ M ∧ M ≤ 100 := by
      have h1 : manyH h ≤ h.ins.length := List.count_le_length
      have h2 := hw.len
      omega
    obtain ⟨hM1, hM2⟩ := hMb
    have HM := Lib.hid hM
    clear ha htr hw hL hM
    go_loopw [6] (fun i wr => ∃ k : Nat, L ≤ k ∧ k ≤ l + 1 ∧ i = .int .i64 (k : Int) ∧ GrwI w p a0 b0 t ct h.ss h.ins M T (k - L) wr) (fun i _ => l + 1 - (intOf i).toNat)
    case atStart => exact ⟨L, Nat.le_refl _, by omega, rfl, HI0.out⟩
    case round =>
      obtain ⟨k, hk1, hk2, rfl, hI⟩ := hrel
      by_cases hkl : k ≤ l
      · obtain ⟨⟨a, b, ca, cb, hA, ha2, hb2⟩, hC⟩ := hI
        have HKE : Hid (k + 1 - L = k - L + 1) := by unfold Hid; omega
        have hmk : M + ((k - L : Nat) : Int) + 1 = M + ((k + 1 - L : Nat) : Int) := by omega
        have hmb : M + ((k - L : Nat) : Int) ≤ 200 := by omega
        have HMK := Lib.hid hmk
        have HSS := Lib.hid (rep_snoc h.ss (k - L) (0 : Int))
        have HII := Lib.hid (rep_snoc h.ins (k - L) true)
        rw [← HKE.out] at HSS HII
        have hSL : (h.ss ++ List.replicate (k - L) (0 : Int)).length ≤ 100 := by rw [List.length_append, List.length_replicate]; have := HL.out; omega
        have hIL : (h.ins ++ List.replicate (k - L) true).length ≤ 100 := by rw [List.length_append, List.length_replicate]; have := HL.out; have := HWL.out; omega
        have hSP : 0 < (h.ss ++ List.replicate (k - L) (0 : Int)).length := by rw [List.length_append, List.length_replicate]; have := HL.out; omega
        have hIP : 0 < (h.ins ++ List.replicate (k - L) true).length := by rw [List.length_append, List.length_replicate]; have := HL.out; have := HWL.out; omega
        have hmn : 0 ≤ M + ((k - L : Nat) : Int) := by omega
        generalize h.ss ++ List.replicate (k - L) (0 : Int) = SS at *
        generalize h.ins ++ List.replicate (k - L) true = II at *
        generalize M + ((k - L : Nat) : Int) = mk at *
        clear hmk
        have HA1 := Lib.hid hA
        have HC1 := Lib.hid hC
        have HA2 := Lib.hid ha2
        have HB2 := Lib.hid hb2
        have c0 := hA.c0
        have f0 := hA.fr 0
        have hpl := hA.lt p (by simp)
        clear hA hC ha2 hb2 HI0
        go_upto_region 6 with (at_builtin; refine wpList_app1 rfl _ _ rfl wr 0 _ SS.length SS 0 HA1.out.ra (Nat.zero_le _) (by omega) rfl rfl ?_; intro v1 w1 ho1 hap1; obtain ⟨g1, cg1, rfl⟩ := own_at ho1 (by omega); obtain ⟨hX, hg1, hc1⟩ := HA1.out.appScore hap1 ho1; have e0 := (hc1.cell (o := 0) hpl (by simp; exact HA1.out.pa)).trans c0; have e1 := (World.frozen?_of_block (a := ⟨p, 0, none⟩) (hc1.block p hpl (by simp; exact HA1.out.pa))).trans f0; have HX := Lib.hid hX; have HG1 := Lib.hid hg1; have HCC1 := Lib.hid hc1; clear hX hg1 hc1 ho1 hap1)
        have HC2 : Hid (Chg [p, a0, b0, t] w (w1.setCell ⟨p, 0, none⟩ (.slice (some ⟨g1, 0, none⟩) (SS.length + 1) cg1))) := chg_app HC1.out HCC1.out (HA2.out.elim .inl (fun h => .inr (.inr h)))
        have HG2 : Hid (g1 = a0 ∨ w.heap.size ≤ g1) := HG1.out.elim (fun e => by rw [e]; exact HA2.out) (fun h => .inr (Nat.le_trans HC1.out.size h))
        clear c0 f0 hpl e0 e1 HC1 HCC1 HG1 HA1
        generalize w1.setCell ⟨p, 0, none⟩ (.slice (some ⟨g1, 0, none⟩) (SS.length + 1) cg1) = w2 at *
        have c1 := HX.out.c1
        have f1 := HX.out.fr 1
        have hpl := HX.out.lt p (by simp)
        go_upto_region 7 with (at_builtin; refine wpList_app1G Value.bool 36 4 (.bool false) 1 Try.underlying36 infoBoo rfl (by decide) rfl _ _ rfl w2 0 _ II.length II true rfl HX.out.rb (Nat.zero_le _) (by omega) rfl rfl ?_; intro v3 w3 ho3 hap3; obtain ⟨g3, cg3, rfl⟩ := own_at ho3 (by omega); obtain ⟨hY, hg3, hc3⟩ := HX.out.appIn hap3 ho3; have e0 := (hc3.cell (o := 1) hpl (by simp; exact HX.out.pb)).trans c1; have e1 := (World.frozen?_of_block (a := ⟨p, 1, none⟩) (hc3.block p hpl (by simp; exact HX.out.pb))).trans f1; have HY := Lib.hid hY; have HG3 := Lib.hid hg3; have HCC3 := Lib.hid hc3; clear hY hg3 hc3 ho3 hap3)
        have HC3 : Hid (Chg [p, a0, b0, t] w (w3.setCell ⟨p, 1, none⟩ (.slice (some ⟨g3, 0, none⟩) (II.length + 1) cg3))) := chg_app HC2.out HCC3.out (HB2.out.elim (fun h => .inr (.inl h)) (fun h => .inr (.inr h)))
        have HG4 : Hid (g3 = b0 ∨ w.heap.size ≤ g3) := HG3.out.elim (fun e => by rw [e]; exact HB2.out) (fun h => .inr (Nat.le_trans HC2.out.size h))
        clear c1 f1 hpl e0 e1 HC2 HCC3 HG3 HX
        generalize w3.setCell ⟨p, 1, none⟩ (.slice (some ⟨g3, 0, none⟩) (II.length + 1) cg3) = w4 at *
        have c2 := HY.out.c2
        have f2 := HY.out.fr 2
        have HZ := Lib.hid (HY.out.setMany (mk + 1))
        have HC4 : Hid (Chg [p, a0, b0, t] w (w4.setCell ⟨p, 2, none⟩ (.int .i64 (mk + 1)))) := HC3.out.setCell (.inl (by simp)) _
        rw [HSS.out, HII.out] at HZ
        clear HY HSS HII
        go_wp2_with fail
        go_roundw
        case rel => exact ⟨k + 1, by omega, by omega, by go_num, ⟨_, _, _, _, by rw [← HMK.out]; exact HZ.out, HG2.out, HG4.out⟩, HC4.out⟩
        case measure => go_light; simp [intOf]; omega
      · have hkl1 : k = l + 1 := by omega
        have hI' := hI
        rw [hkl1] at hI'
        have HI := Lib.hid hI'
        have hd : decide ((k : Int) ≤ (l : Int)) = false := decide_eq_false (by omega)
        clear hkl1 hI hI' HI0
        obtain ⟨⟨a, b, ca, cb, hA, ha2, hb2⟩, hC⟩ := HI.out
        have c3 := hA.c3
        have c0 := hA.c0
        have hTL := HTR.out.len
        rw [hTL] at c3
        have HA1 := Lib.hid hA
        have HA2 := Lib.hid ha2
        have HB2 := Lib.hid hb2
        have HC := Lib.hid hC
        have HSL : Hid ((h.ss ++ List.replicate (l + 1 - L) (0 : Int)).length = l + 1) := by unfold Hid; rw [List.length_append, List.length_replicate, HL.out]; omega
        have HIL : Hid ((h.ins ++ List.replicate (l + 1 - L) true).length = (h.ss ++ List.replicate (l + 1 - L) (0 : Int)).length) := by unfold Hid; rw [List.length_append, List.length_replicate, List.length_append, List.length_replicate, HWL.out]
        have HGR : Hid (growH h (l : Int) = ⟨h.ss ++ List.replicate (l + 1 - L) 0, h.ins ++ List.replicate (l + 1 - L) true⟩) := by unfold Hid growH; rw [HL.out, Int.toNat_natCast]
        have HGW : Hid (HpW (growH h (l : Int))) := HWF.out.grow _ h2
        have HGM : Hid (M + ((l + 1 - L : Nat) : Int) = ((manyH (growH h (l : Int)) : Nat) : Int)) := by
          unfold Hid; rw [HGR.out, ← HM.out]; unfold manyH; simp only [count_grow]; omega
        have HLF : Hid (∀ v, v < L ∨ l < v → leafI (h.ss ++ List.replicate (l + 1 - L) 0) (h.ins ++ List.replicate (l + 1 - L) true) v = leafI h.ss h.ins v) := fun v hv => leaf_grow HWL.out _ _ (by rw [HL.out]; omega)
        have hSL := HSL.out
        rw [hSL] at c0
        rw [HGM.out] at HA1
        clear hA ha2 hb2 hC HI hTL hSL HGM
        have HFIN : Hid (∀ V0 E e w', 2 ^ E ≤ 128 → l + 1 ≤ 2 ^ E → ∀ t' ct', (t' = t ∨ w.heap.size ≤ t') → TellPost V0 p a b t' ca cb ct' (h.ss ++ List.replicate (l + 1 - L) 0) (h.ins ++ List.replicate (l + 1 - L) true) ((manyH (growH h (l : Int)) : Nat) : Int) E e w' → Chg [p, a0, b0, t] w w' → HPost w (.pointer (some ⟨p, 0, none⟩)) [p, a0, b0, t] (growH h (l : Int)) (.tuple #[]) e w') := by
          intro V0 E e w' hE1 hE2 t' ct' ht' hpost hc
          obtain ⟨rfl, ⟨T', hA', hT'⟩, _⟩ := hpost
          refine ⟨rfl, ⟨[p, a, b, t'], ⟨p, a, b, t', ca, cb, ct', T', E, rfl, rfl, ?_, ?_, HGW.out, ?_, hE1⟩, ?_⟩, hc⟩
          · rw [HGR.out]; rw [HGR.out] at hA'; exact hA'
          · rw [HGR.out]; exact hT'
          · rw [HGR.out]; show (h.ss ++ _).length ≤ _; rw [HSL.out]; exact hE2
          · intro i hi
            simp only [List.mem_cons, List.not_mem_nil, or_false] at hi
            rcases hi with rfl | rfl | rfl | rfl
            · exact .inl (by simp)
            · exact HA2.out.elim (fun e => .inl (by simp [e])) .inr
            · exact HB2.out.elim (fun e => .inl (by simp [e])) .inr
            · exact ht'.elim (fun e => .inl (by simp [e])) .inr
        generalize hW : 2 ^ D = W at *
        have HW := Lib.hid hW
        clear hW
        go_wp2_with fail
        go_loop [7] (fun i => ∃ E V : Nat, Hid (2 * 2 ^ E = V) ∧ D ≤ E ∧ Hid (2 * W ≤ V) ∧ V ≤ 256 ∧ i = .int .i64 (V : Int)) (fun i => 300 - (intOf i).toNat)
        case atStart => exact ⟨D, 2 * W, by unfold Hid; rw [HW.out], Nat.le_refl _, Nat.le_refl _, by omega, by go_num⟩
        case round =>
          obtain ⟨E, V, HX, hE, HWV, hV, rfl⟩ := hrel
          by_cases hxl : V < 2 * (l + 1)
          · have hx1 : decide ((V : Int) < 2 * ((l : Int) + 1)) = true := decide_eq_true (by omega)
            have HX2 : Hid (2 * 2 ^ (E + 1) = V * 2) := by unfold Hid; rw [Nat.pow_succ, ← HX.out]; omega
            have HV2 : Hid (2 * W ≤ V * 2) := by have := HWV.out; unfold Hid; omega
            have HV3 : Hid (V * 2 ≤ 256) := by unfold Hid; omega
            have HV1 : Hid (0 < V) := by have := HWV.out; unfold Hid; omega
            clear hxl
            go_wp2_with fail
            go_round
            case rel => exact ⟨E + 1, V * 2, HX2.out, by omega, HV2.out, HV3.out, by go_num⟩
            case measure => go_light; have := HV3.out; have := HV1.out; simp [intOf]; omega
          · have hd2 : decide ((V : Int) < 2 * ((l : Int) + 1)) = false := decide_eq_false (by omega)
            have HXL : Hid (2 * (l + 1) ≤ V) := by unfold Hid; omega
            clear hxl
            by_cases hED : E = D
            · have HVW : Hid (V = 2 * W) := by unfold Hid; rw [← HX.out, hED, HW.out]
              have hd3 : decide (2 * (W : Int) < (V : Int)) = false := decide_eq_false (by have := HVW.out; omega)
              have HTL := Lib.hid (htell_any D L l wr HA1.out (TellA.start HTR.out HLF.out) HIL.out hpos (by omega) (by rw [HSL.out]; omega) (by rw [HSL.out, HW.out]; have := HVW.out; have := HXL.out; omega) (by rw [HW.out]; omega))
              have HF := Lib.hid (fun e w' => HFIN.out wr D e w' (by rw [HW.out]; exact hD2) (by rw [HW.out]; have := HVW.out; have := HXL.out; omega) t ct (.inl rfl))
              clear HX HWV
              go_wp2_with fail
              refine HTL.out.mono ?_
              rintro e w' hp
              have HP := Lib.hid hp
              have he := hp.1
              subst he
              clear hp HTL
              go_wp2_with fail
              (try simp only [Exit.inBlock, Exit.then]); refine bodyPost_end (results_none rfl _ _ _) rfl ?_
              exact HF.out _ _ HP.out (HC.out.trans HP.out.2.2 (fun i hi => .inl (by simp at hi; simp [hi])))
            · have HVW : Hid (2 * W < V) := by
                have h1 : 2 ^ (D + 1) ≤ 2 ^ E := Nat.pow_le_pow_right (by decide) (by omega)
                have h2 := HX.out
                have h3 := HW.out
                rw [Nat.pow_succ] at h1
                unfold Hid; omega
              have hd3 : decide (2 * (W : Int) < (V : Int)) = true := decide_eq_true (by have := HVW.out; omega)
              have f3 := HA1.out.fr 3
              have hpl := HA1.out.lt p (by simp)
              have HI1 : Hid ((h.ins ++ List.replicate (l + 1 - L) true).getD 0 false = false) := by have := HGW.out.i0; rw [HGR.out] at this; exact this
              have HI2 : Hid (∀ v, l < v → (h.ins ++ List.replicate (l + 1 - L) true).getD v false = false) := fun v hv => by
                rw [getD_grow, HWL.out, HL.out, if_neg (by omega), if_neg (by omega)]
              have HT0 := Lib.hid (TellA.zero (D := E) (ss := h.ss ++ List.replicate (l + 1 - L) 0) HI1.out HI2.out)
              rw [HX.out] at HT0
              have HVE : Hid (2 ^ E ≤ 128 ∧ l + 1 ≤ 2 ^ E) := by have := HXL.out; have := HX.out; unfold Hid; omega
              have HLR : Hid ((List.replicate V z2).length = V) := List.length_replicate
              clear HX HWV
              go_upto_region 13 with (at_make; refine wpList_makeT rfl _ _ rfl _ V rfl rfl (by omega) ?_; intro w5 ho5 hb5; have e0 := (hb5.cell (p := ⟨p, 3, none⟩) hpl).trans c3; have e1 := (hb5.frozen (p := ⟨p, 3, none⟩) hpl).trans f3; have HY := Lib.hid (HA1.out.newTree hb5 ho5); have HB5 := Lib.hid hb5; rw [HLR.out] at HY; clear ho5 hb5)
              have HC6 : Hid (Chg [p, a0, b0, t] w (w5.setCell ⟨p, 3, none⟩ (.slice (some ⟨wr.heap.size, 0, none⟩) V V))) := (HC.out.trans (T := []) (Chg.of_below HB5.out) (by intro i hi; cases hi)).setCell (.inl (by simp)) _
              have HNS : Hid (w.heap.size ≤ wr.heap.size) := HC.out.size
              clear e0 e1 f3 hpl c0 c3 HB5
              generalize w5.setCell ⟨p, 3, none⟩ (.slice (some ⟨wr.heap.size, 0, none⟩) V V) = w6 at *
              have HTL := Lib.hid (htell_any E 1 l w6 HY.out (by have := HT0.out; exact this) HIL.out (Nat.le_refl _) (by omega) (by rw [HSL.out]; omega) (by rw [HSL.out]; exact HVE.out.2) (by have := HVE.out.1; omega))
              rw [show ((1 : Nat) : Int) = 1 from rfl] at HTL
              have HF := Lib.hid (fun e w' => HFIN.out w6 E e w' HVE.out.1 HVE.out.2 wr.heap.size V (.inr HNS.out))
              go_wp2_with fail
              refine HTL.out.mono ?_
              rintro e w' hp
              have HP := Lib.hid hp
              have he := hp.1
              subst he
              clear hp HTL
              go_wp2_with fail
              (try simp only [Exit.inBlock, Exit.then]); refine bodyPost_end (results_none rfl _ _ _) rfl ?_
              exact HF.out _ _ HP.out (HC6.out.trans HP.out.2.2 (fun i hi => .inr (by simp at hi; rw [hi]; exact HNS.out)))

/-! ### New -/
theorem leaf_none (v : Nat) : leafI [0] [false] v = z2 := by
  unfold leafI
  rw [if_neg]
  match v with
  | 0 => simp
  | v + 1 => simp
theorem tree_one : TreeOk 0 [0] [false] (List.replicate 2 z2) where
  len := rfl
  bnd := fun n => by rw [getD_rep]; exact ⟨Int.le_refl _, by show (0 : Int) * (n : Int) ≤ _; rw [Int.zero_mul]; exact Int.natCast_nonneg _⟩
  leaf := fun v _ => by rw [getD_rep, leaf_none]
  node := fun n h1 h2 => by simp at h2; omega

/-- New's four blocks. -/
def W1 (w : World) : World := w.alloc (.cells #[.int .i64 0] 3)
def W2 (w : World) : World := (W1 w).alloc (.cells #[.bool false] 4)
def W3 (w : World) : World := (W2 w).alloc (.cells #[.int .i64 0, .int .i64 0, .int .i64 0, .int .i64 0] 49)
def W4 (w : World) : World := (W3 w).alloc (.cells #[.slice (some ⟨w.heap.size, 0, none⟩) 1 1, .slice (some ⟨w.heap.size + 1, 0, none⟩) 1 1, .int .i64 0, .slice (some ⟨w.heap.size + 1 + 1, 0, none⟩) 2 2] 46)
theorem w4_below (w : World) : Below w.heap.size w (W4 w) := ((((Below.refl _ _).alloc (Nat.le_refl _) _).alloc (by simp) _).alloc (by simp; omega) _).alloc (by simp; omega) _
theorem w4_at (w : World) : HpAt (W4 w) (w.heap.size + 1 + 1 + 1) w.heap.size (w.heap.size + 1) (w.heap.size + 1 + 1) 1 1 2 [0] [false] 0 (List.replicate 2 z2) := by
  have z1 : (W1 w).heap.size = w.heap.size + 1 := by simp [W1]
  have z2' : (W2 w).heap.size = w.heap.size + 1 + 1 := by simp [W2, z1]
  have z3 : (W3 w).heap.size = w.heap.size + 1 + 1 + 1 := by simp [W3, z2']
  have n1 := heap_alloc_new w (.cells #[.int .i64 0] 3)
  have n2 := heap_alloc_new (W1 w) (.cells #[.bool false] 4)
  have n3 := heap_alloc_new (W2 w) (.cells #[.int .i64 0, .int .i64 0, .int .i64 0, .int .i64 0] 49)
  have n4 := heap_alloc_new (W3 w) (.cells #[.slice (some ⟨w.heap.size, 0, none⟩) 1 1, .slice (some ⟨w.heap.size + 1, 0, none⟩) 1 1, .int .i64 0, .slice (some ⟨w.heap.size + 1 + 1, 0, none⟩) 2 2] 46)
  rw [z1] at n2
  rw [z2'] at n3
  rw [z3] at n4
  have n4' : (W4 w).heap[w.heap.size + 1 + 1 + 1]? = _ := n4
  have b3 : Below (w.heap.size + 1 + 1 + 1) (W3 w) (W4 w) := (Below.refl _ _).alloc (by rw [z3]; exact Nat.le_refl _) _
  have b2 : Below (w.heap.size + 1 + 1) (W2 w) (W4 w) := ((Below.refl _ _).alloc (by rw [z2']; exact Nat.le_refl _) _).trans (b3.mono (by omega))
  have b1 : Below (w.heap.size + 1) (W1 w) (W4 w) := ((Below.refl _ _).alloc (by rw [z1]; exact Nat.le_refl _) _).trans (b2.mono (by omega))
  have hc : ∀ o u, #[Value.slice (some ⟨w.heap.size, 0, none⟩) 1 1, .slice (some ⟨w.heap.size + 1, 0, none⟩) 1 1, .int .i64 0, .slice (some ⟨w.heap.size + 1 + 1, 0, none⟩) 2 2][o]? = some u → (W4 w).cell? ⟨w.heap.size + 1 + 1 + 1, o, none⟩ = some u := fun o u ho => by
    rw [cell_of_row _ _ o _ 46 (0, 0) n4']
    exact ho
  have r1 : (W1 w).ownsRow 0 3 1 (.slice (some ⟨w.heap.size, 0, none⟩) 1 1) 1 [.int .i64 0] := ⟨rfl, .inr ⟨_, _, _, rfl, Nat.zero_le _, n1, Nat.le_refl _, by unfold maxLen; omega, rfl, rfl⟩⟩
  have r2 : (W2 w).ownsRow 0 4 1 (.slice (some ⟨w.heap.size + 1, 0, none⟩) 1 1) 1 [.bool false] := ⟨rfl, .inr ⟨_, _, _, rfl, Nat.zero_le _, n2, Nat.le_refl _, by unfold maxLen; omega, rfl, rfl⟩⟩
  have r3 : (W3 w).ownsRow 0 49 2 (.slice (some ⟨w.heap.size + 1 + 1, 0, none⟩) 2 2) 2 [.int .i64 0, .int .i64 0, .int .i64 0, .int .i64 0] := ⟨rfl, .inr ⟨_, _, _, rfl, Nat.zero_le _, n3, Nat.le_refl _, by unfold maxLen; omega, rfl, rfl⟩⟩
  exact { c0 := hc 0 _ rfl, c1 := hc 1 _ rfl, c2 := hc 2 _ rfl, c3 := hc 3 _ rfl
          fr := fun i => by simp only [World.frozen?, n4']; simp
          ra := own_keep r1 (by rw [z1]; exact b1)
          rb := own_keep r2 (by rw [z2']; exact b2)
          rt := own_keep r3 (by rw [z3]; exact b3)
          pa := by omega, pb := by omega, pt := by omega, ab := by omega, at' := by omega, bt := by omega }

set_option maxRecDepth 8000 in
set_option maxHeartbeats 2000000 in
theorem hnew_any (w : World) (n : Int) (h1 : -9223372036854775808 ≤ n) (h2 : n ≤ 60) :
    Calls Try.prog 7 #[.int .i64 n] w fun e w' => ∃ v S, e = .returned v ∧ HpS w' v S (newH n) ∧ (∀ i ∈ S, w.heap.size ≤ i) ∧ Below w.heap.size w w' := by
  have hmk : ∀ w, (Instr.makeSlice 44 (.int .i64 2) (.int .i64 2)).run Try.prog w = .ok (.slice (some ⟨w.heap.size, 0, none⟩) 2 2) (w.alloc (.cells #[.int .i64 0, .int .i64 0, .int .i64 0, .int .i64 0] 49)) := fun _ => by kernel_rfl
  have HS : Hid (HpS (W4 w) (.pointer (some ⟨w.heap.size + 1 + 1 + 1, 0, none⟩)) [w.heap.size + 1 + 1 + 1, w.heap.size, w.heap.size + 1, w.heap.size + 1 + 1] ⟨[0], [false]⟩) := ⟨_, _, _, _, 1, 1, 2, _, 0, rfl, rfl, w4_at w, tree_one, hpw_one, by decide, by decide⟩
  have HB := Lib.hid (w4_below w)
  have HG := Lib.hid (hgrow_any (W4 w) HS.out n h1 h2)
  have HW4 : Hid (((((w.alloc (.cells #[.int .i64 0] 3)).alloc (.cells #[.bool false] 4)).alloc (.cells #[.int .i64 0, .int .i64 0, .int .i64 0, .int .i64 0] 49)).alloc (.cells #[.slice (some ⟨w.heap.size, 0, none⟩) 1 1, .slice (some ⟨w.heap.size + 1, 0, none⟩) 1 1, .int .i64 0, .slice (some ⟨w.heap.size + 1 + 1, 0, none⟩) 2 2] 46)) = W4 w) := rfl
  go_enter Try.func7, Try.ntmps7
  go_wp2_with fail
  rw [HW4.out]
  refine HG.out.mono ?_
  rintro e w' hp
  have HP := Lib.hid hp
  have he := hp.1
  subst he
  clear hp HG
  go_wp2_with fail
  go_ret
  obtain ⟨_, ⟨S', hS, hF⟩, hC⟩ := HP.out
  have hge : ∀ i ∈ [w.heap.size + 1 + 1 + 1, w.heap.size, w.heap.size + 1, w.heap.size + 1 + 1], w.heap.size ≤ i := by simp; omega
  refine ⟨_, S', rfl, hS, fun i hi => ?_, hC.below HB.out HB.out.size hge⟩
  exact (hF i hi).elim (hge i) (fun h => Nat.le_trans HB.out.size h)
end Go.Proofs.Yteiidcogjmekhaa
